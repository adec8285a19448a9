/- Own work. -/
import Derived.Test.YtoblgjledefdbaaGreatDoorQm18
namespace Go.Proofs.YtoblgjledefdbaaGreatDoor
open Go.RowKit
attribute [local go_sem ↓] Go.wp_at_zero Go.wp_at_succ
open Go.Proofs.Tryz
namespace St.Pl
def Qy:Nat->Nat->Nat
 | 0,_=>0
 | k+1,n=>n % 2+Qy k (n / 2)
theorem Uj(n k:Nat):n / 2^(k+1)=n / 2^k / 2:=by
 rw[LC,L1]
theorem Qdy(k n:Nat):Qy k n<=k:=by
 induction k generalizing n with
 | zero=>exact La _
 | succ k ih=>have:=ih (n / 2);simp only[Qy];omega
theorem Qat(k n:Nat)(hk:k<64):Qy (64 - k) (n / 2^k)=n / 2^k % 2+Qy (64 - (k+1)) (n / 2^(k+1)):=by
 rw[show 64 - k=(64 - (k+1))+1 by omega,Qy,Uj]
def N(n:Nat):Nat:=2*n - Qy 64 n
def pw(h:Nat):Nat:=2^h
def at'(h k:Nat):Nat:=2*pw h*(k+1) - 2 - Qy 64 k
def fr(h k:Nat):Nat:=2*pw h*k - Qy 64 k
theorem QJ(h:Nat):pw (h+1)=2*pw h:=by simp[pw,Nat.pow_succ,Nat.mul_comm]
theorem OZ:pw 0=1:=rfl
theorem QB(h:Nat):0<pw h:=LJ h
theorem QdC(a b:Nat):pw (a+b)=pw a*pw b:=Ix 2 a b
theorem OY{a b:Nat}(h:a<=b):pw a<=pw b:=LW (by decide) h
theorem JR(j k:Nat):Qy j k<=k:=by
 induction j generalizing k with
 | zero=>exact Ll _
 | succ j ih=>have:=ih (k / 2);simp only[Qy];omega
theorem UP(j k:Nat)(h:k<2^j):Qy (j+1) k=Qy j k:=by
 induction j generalizing k with
 | zero=>simp at h;subst h;rfl
 | succ j ih =>
  rw[Qy,ih (k / 2) (by rw[LC] at h;omega)];rfl
theorem QbJ(k:Nat)(h:k<2^63):Qy 64 (2*k)=Qy 64 k:=by
 rw[UP 63 k h,Qy];have e1:2*k % 2=0:=by omega
 have e2:2*k / 2=k:=by omega
 rw[e1,e2];omega
theorem QeL(k:Nat)(h:k<2^63):Qy 64 (2*k+1)=Qy 64 k+1:=by
 rw[UP 63 k h,Qy];have e1:(2*k+1) % 2=1:=by omega
 have e2:(2*k+1) / 2=k:=by omega
 rw[e1,e2];omega
theorem Qf4(h k:Nat)(hb:k*pw h<2^63):Qy 64 (k*pw h)=Qy 64 k:=by
 induction h with
 | zero=>simp[pw]
 | succ h ih =>
  rw[QJ] at hb ⊢;have e:k*(2*pw h)=2*(k*pw h):=by rw[NJ]
  rw[e] at hb ⊢;rw[QbJ _ (by omega),ih (by omega)]
theorem Qio(h k:Nat)(hb:(k+1)*pw h<2^63):Qy 64 ((k+1)*pw h - 1)=Qy 64 k+h:=by
 induction h with
 | zero=>simp[pw]
 | succ h ih =>
  rw[QJ] at hb ⊢;have e:(k+1)*(2*pw h)=2*((k+1)*pw h):=by rw[NJ]
  have hp:0<(k+1)*pw h:=Nat.mul_pos (by omega) (QB h)
  rw[e] at hb ⊢;have e2:2*((k+1)*pw h) - 1=2*((k+1)*pw h - 1)+1:=by omega
  rw[e2,QeL _ (by omega),ih (by omega)];omega
theorem Qnz(h k:Nat):at' h k+2+Qy 64 k=2*pw h*(k+1):=by
 have h1:=JR 64 k;have h2:1*(2*(k+1))<=pw h*(2*(k+1)):=LU _ (QB h);have e:2*pw h*(k+1)=pw h*(2*(k+1)):=by rw[LG 2,LY]
 simp only[at'];rw[e];omega
theorem Qcv(h k:Nat):fr h k+Qy 64 k=2*pw h*k:=by
 have h1:=JR 64 k;have h2:1*(2*k)<=pw h*(2*k):=LU _ (QB h);have e:2*pw h*k=pw h*(2*k):=by rw[LG 2,LY]
 simp only[fr];rw[e];omega
theorem QoV(h k:Nat):at' h k=fr h k+(2*pw h - 2):=by
 have h1:=Qnz h k;have h2:=Qcv h k;have h3:=QB h;rw[NP,L8] at h1;omega
theorem N_eq(n:Nat):N n+Qy 64 n=2*n:=by
 have:=JR 64 n;simp only[N];omega
theorem N_at(h k:Nat)(hb:(k+1)*pw h<2^63):N ((k+1)*pw h - 1)+h=at' h k:=by
 have h1:=Qnz h k;have h2:=N_eq ((k+1)*pw h - 1);have h3:=Qio h k hb;have hp:0<(k+1)*pw h:=Nat.mul_pos (by omega) (QB h)
 have e:2*pw h*(k+1)=2*((k+1)*pw h):=by rw[LY,LG (pw h)]
 omega
theorem N_fr(h k:Nat)(hb:k*pw h<2^63):N (k*pw h)=fr h k:=by
 have h1:=Qcv h k;have h2:=N_eq (k*pw h);have h3:=Qf4 h k hb;have e:2*pw h*k=2*(k*pw h):=by rw[LY,LG (pw h)]
 omega
theorem QgV(h k:Nat)(hk:k<2^63):fr h (2*k)=fr (h+1) k:=by
 have h1:=Qcv (h+1) k;have h2:=Qcv h (2*k);have h3:=QbJ k hk;have e:2*pw (h+1)*k=2*pw h*(2*k):=by rw[QJ,LY 2 (2*pw h) k,LY 2 (pw h) (2*k),LY 2 (pw h) k,NJ (pw h) 2 k]
 omega
theorem QjQ(h k:Nat)(hk:k<2^63):fr h (2*k+1)=fr (h+1) k+(2*pw h - 1):=by
 have h1:=QgV h k hk;have h2:=Qcv h (2*k);have h3:=Qcv h (2*k+1);have h4:=QbJ k hk;have h5:=QeL k hk;have h6:=QB h;rw[NP,L8] at h3;omega
theorem Qmg{h k:Nat}(hk:k<pw (40 - h)):k<2^40 :=
 Lx hk (OY (by omega))
theorem at_next(h k:Nat)(hk:k<2^63)(ho:k % 2=1):at' h (k - 1)+1=fr h k:=by
 have e:k=2*(k / 2)+1:=by omega
 have h1:=QjQ h (k / 2) (by omega)
 have h2:=QgV h (k / 2) (by omega)
 have h3:=QoV h (k - 1);have h4:=QB h;rw[<-e] at h1;rw[show 2*(k / 2)=k - 1 by omega] at h2
 omega
theorem QeJ(t n:Nat)(h:n % pw t=pw t - 1):n+1=(n / pw t+1)*pw t:=by
 have h1:=Ib n (pw t);have h2:=QB t;rw[LL,LV,LG (n / pw t)];omega
theorem Qce(t n:Nat)(h:n % pw t=pw t - 1)(ho:n / pw t % 2=1):n % pw (t+1)=pw (t+1) - 1:=by
 have h2:=QB t;have e:n % pw (t+1)=n % pw t+pw t*(n / pw t % 2):=by rw[QJ,LG,N7]
 rw[e,h,ho,QJ];omega
theorem QeK(t n:Nat)(h:n % pw t=pw t - 1)(hn:n<2^40):t<=40:=by
 have h1:pw t - 1<=n:=by rw[<-h];exact Nat.mod_le _ _
 have h2:=QB t
 by_cases ht:t<=40
 ·exact ht
 ·have:pw 41<=pw t:=OY (by omega)
  have:pw 41=2^41:=rfl;omega
theorem Qol(t n:Nat)(h:n % pw t=pw t - 1)(hn:n<2^40):at' t (n / pw t)=N n+t∧n / pw t<pw (40 - t)∧t<=40:=by
 have e:=QeJ t n h;have ht:=QeK t n h hn;have hx:=N_at t (n / pw t) (by rw[<-e];omega)
 rw[<-e,LP] at hx;refine⟨hx.symm,?_,ht⟩
 rw[Nat.div_lt_iff_lt_mul (QB t),<-QdC,show 40 - t+t=40 by omega]
 exact hn
theorem new_N(t n:Nat)(h:n % pw t=pw t - 1)(ho : ¬n / pw t % 2=1)(hn:n<2^40):N (n+1)=N n+t+1:=by
 have e:=QeJ t n h;obtain⟨h1,h2,ht⟩:=Qol t n h hn;have hb:=Qmg h2;have h4:=N_fr t (n / pw t+1) (by rw[<-e];omega)
 rw[<-e] at h4;have h5:=at_next t (n / pw t+1) (by omega) (by omega)
 rw[LP] at h5;omega
end St.Pl
namespace St
open Rc
def nmI:List UInt8:=[105,116,101,109,115]
def nmN:List UInt8:=[110,111,100,101,115]
def nmM:List UInt8:=[109,97,114,107,115]
def nn(n:Nat):Nat:=Pl.N n
def lst(l:List Nat):Nat:=l.getLastD 0
def UK(l:List Nat)(n:Nat):Nat:=if n=0 then 0 else l.getD (n - 1) 0
theorem Qbm(l:List Nat):UK l l.length=lst l:=by
 unfold UK lst
 rcases List.eq_nil_or_concat l with rfl|⟨a,b,rfl⟩
 ·rfl
 ·simp
structure SV where
 k:Nat
 ends:List Nat
 chain:BitVec 32
 lame:Bool
def tx(l:List UInt8):BA:=⟨l.toArray⟩
theorem Jc(l:List UInt8):(tx l).data.toList=l:=rfl
theorem Yp(l:List UInt8):(tx l).size=l.length:=by show l.toArray.size=_;simp
def Yb(b:List UInt8)(p:Nat):List UInt8:=(b.drop (40*p)).take 40
def rdN(k:Nat)(b:List UInt8)(p:Nat):Nat->Option LB
 | 0=>some []
 | j+1=>match rdN k b p j with
  | none=>none
  | some l=>if 40*(p+j)+40<=b.length∧(rnod k (p+j) (Yb b (p+j))).isSome then some (l++[tx (Yb b (p+j))]) else none
instance decMV:DecidableEq MV:=fun a b=>decidable_of_iff (a.k=b.k∧a.size=b.size∧a.items=b.items∧a.nodes=b.nodes∧a.chain=b.chain) ⟨fun h=>MV.ext' h.1 h.2.1 h.2.2.1 h.2.2.2.1 h.2.2.2.2,fun h=>by subst h;exact⟨rfl,rfl,rfl,rfl,rfl⟩⟩
def nxM(k:Nat)(ends:List Nat)(c:BitVec 32)(pl:List UInt8)(rows:LB):MV :=
 ⟨(k:Int),ends.length+1,lst ends+pl.length,nn (ends.length+1)*40,BitVec.ofNat 32 (chn c pl rows)⟩
def whl(pl:List UInt8):Bool:=match rpay pl with
 | none=>false
 | some x=>x.length+8 == pl.length
def tkN(k:Nat)(a b:List UInt8)(st:List Nat×BitVec 32)(row:List UInt8):Option (List Nat×BitVec 32) :=
 match rmrk row with
 | none=>none
 | some m =>
  if 65536<=st.1.length∨m.items<=lst st.1∨a.length<m.items∨whl ((a.drop (lst st.1)).take (m.items - lst st.1))=false then none else
  match rdN k b (nn st.1.length) (nn (st.1.length+1) - nn st.1.length) with
  | none=>none
  | some rows=>if m=nxM k st.1 st.2 ((a.drop (lst st.1)).take (m.items - lst st.1)) rows then some (st.1++[m.items],m.chain) else none
def Uw(m:List UInt8)(i:Nat):List UInt8:=(m.drop (64*i)).take 64
def tkA(k:Nat)(a b m:List UInt8):Nat->Option (List Nat×BitVec 32)
 | 0=>some ([],0#32)
 | j+1=>match tkA k a b m j with
  | none=>none
  | some st=>tkN k a b st (Uw m j)
def J3(m:List UInt8):Nat:=if 0<m.length / 64∧Uw m (m.length / 64 - 1)=zer 64 then m.length / 64 - 1 else m.length / 64
def Oe(k:Nat)(a b m:List UInt8):Option (List Nat×BitVec 32):=tkA k a b m (J3 m)
def Qz:List (DV->DV×Int)->DV->DV×Int
 | [],D=>(D,0)
 | f::r,D=>if (f D).2=0 then Qz r (f D).1 else f D
def cutI(s:List UInt8)(n:Nat)(D:DV):DV×Int:=if JD D s<=n then (D,0) else Jg D s (n:Int)
def stl(ends:List Nat):List (DV->DV×Int) :=
 [cutI nmI (lst ends),cutI nmN (nn ends.length*40),cutI nmM (ends.length*64),fun D=>Q1 D nmI,fun D=>Q1 D nmN,fun D=>Q1 D nmM]
def now(D:DV)(s:List UInt8):List UInt8:=(Qe D.L s).now
def YX(D:DV)(k:Int):DV×Option SV×Int :=
 if ¬(1<=k∧k<=32) then (D,none,70) else if D.down then (D,none,170) else
 match Oe k.toNat (now D nmI) (now D nmN) (now D nmM) with
 | none=>(D,none,190)
 | some st=>if (Qz (stl st.1) D).2=0 then ((Qz (stl st.1) D).1,some ⟨k.toNat,st.1,st.2,false⟩,0) else ((Qz (stl st.1) D).1,none,(Qz (stl st.1) D).2)
def nxt(S:SV)(ds:LB):Bool:=ds.length == nn (S.ends.length+1) - nn S.ends.length && ds.all fun d=>d.size == S.k
def Q5(p:Nat)(ds:LB):LB:=ds.mapIdx fun i d=>tx (nod (p+i) d.data.toList)
def six(S:SV)(pl jn mk:List UInt8):List (DV->DV×Int) :=
 [fun D=>wrD D nmI (lst S.ends:Int) pl,fun D=>wrD D nmN ((nn S.ends.length*40:Nat):Int) jn,fun D=>Q1 D nmI,fun D=>Q1 D nmN,fun D=>wrD D nmM ((S.ends.length*64:Nat):Int) mk,fun D=>Q1 D nmM]
def addM(S:SV)(item:List UInt8)(ds:LB):MV:=nxM S.k S.ends S.chain (pay item) (Q5 (nn S.ends.length) ds)
def addA(S:SV)(item:List UInt8)(ds:LB):List (DV->DV×Int):=six S (pay item) (Rc.Qk (Q5 (nn S.ends.length) ds)) (mrk (addM S item ds))
def refD(S:SV)(item:List UInt8)(ds:LB):Int :=
 if S.lame then 191 else if 1048576<item.length then 100 else if 65536<=S.ends.length then 101 else if nxt S ds=false then 192 else if 268435456<lst S.ends+(item.length+8) then 172 else 0
def addD(D:DV)(S:SV)(item:List UInt8)(ds:LB):DV×SV×Int :=
 if refD S item ds≠0 then (D,S,refD S item ds) else
 if (Qz (addA S item ds) D).2=0 then ((Qz (addA S item ds) D).1,{ S with ends:=S.ends++[(addM S item ds).items],chain:=(addM S item ds).chain },0) else
 ((Qz (addA S item ds) D).1,{ S with lame:=true },(Qz (addA S item ds) D).2)
def rdS(D:DV)(s:List UInt8)(off n:Int):List UInt8×Int:=if (rdD D s off n).2=173 then ([],190) else rdD D s off n
def OK(D:DV)(S:SV)(i:Nat):List UInt8×Int:=rdS D nmI (UK S.ends i:Int) ((S.ends.getD i 0:Int) - (UK S.ends i:Int))
def YS(D:DV)(S:SV)(i:Nat):List UInt8×Int :=
 if S.ends.length<=i then ([],31) else if (OK D S i).2≠0 then ([],(OK D S i).2) else
 if whl (OK D S i).1 then ((rpay (OK D S i).1).getD [],0) else ([],190)
def nodR(D:DV)(p:Nat):List UInt8×Int:=rdS D nmN ((p*40:Nat):Int) 40
def Om(D:DV)(S:SV)(p:Nat):List UInt8×Int :=
 if nn S.ends.length<=p then ([],31) else if (nodR D p).2≠0 then ([],(nodR D p).2) else
 match rnod S.k p (nodR D p).1 with
 | none=>([],190)
 | some x=>(x,0)
end St
namespace St.Rc
theorem Tryz.infoS:(prog.info? 9).map (fun i=>(i.zero,i.size,i.bytes))=some (some (.string ByteArray.empty),1,16):=by kernel_rfl
theorem Uy(w:World)(s:BA)(hs:s.size<=9223372036854775807):RdS (w.alloc (.cells #[.string s] 9)) (some ⟨w.heap.size,0,none⟩) w.heap.size 0 1 [s] :=
 ⟨rfl,fun _=>rfl,Qq w [.string s] 9,fun x hx=>by simp at hx;subst hx;exact hs⟩
def Qi(w:World)(B:Nat)(v:Value)(ss:LB):Prop:=w.ownsRow B 9 1 v ss.length (ss.map Value.string)
theorem QR{w:World}{B:Nat}{v:Value}{ss:LB}(h:Qi w B v ss)(hs : ∀s∈ss,s.size<=9223372036854775807) : ∃ao b cap,v = .slice ao ss.length cap∧RdS w ao b 0 ss.length ss∧ss.length<=cap∧(ao=none->cap=0):=by
 obtain⟨h1,h2⟩:=h
 rcases h2 with ⟨hv,h0⟩|⟨g,cap,cur,rfl,hg,hh,hc1,hc,hsz,ht⟩
 ·have:ss=[]:=List.length_eq_zero_iff.1 h0;subst this;exact⟨none,0,0,by rw[hv];rfl,⟨rfl,fun h=>absurd h (Nk 0),(fun j v h=>by cases h),hs⟩,La _,fun _=>rfl⟩
 ·refine⟨some ⟨g,0,none⟩,g,cap,rfl,⟨rfl,fun _=>rfl,fun j v hj => ?_,hs⟩,hc1,fun h=>by cases h⟩
  rw[Lm,cell_of_row w g j cur 9 (0,0) hh];rw[<-ht,LQ] at hj
  split at hj
  ·simpa using hj
  ·cases hj
theorem QM(w:World){ops:Array Oper}{rest:List Oper}{o:Oper}{a:Act}{Q:Exit->Act->World->Prop}
  (hg:o.guard=none) (s x:Operand) (hop:o.op=Op.call { callee:=Callee.builtin Builtin.append,args:=#[s,x],argTypes:=#[22,22] })
  (B:Nat) (v:Value) (L:LB) (hs:a.eval s=v) (hown:Qi w B v L) (ao:OA) (b off cap:Nat) (M:LB) (hx:a.eval x = .slice ao M.length cap) (hr:RdS w ao b off M.length M) (hn:ao=none->cap=0)
  (hlen:L.length+M.length<=8796093022208) (hB:B<=w.heap.size)
  (hK : ∀v' w',Qi w' B v' (L++M)->Below B w w'->wpList prog ops Q rest (a.put o.dst v') w'):wpList prog ops Q (o::rest) a w:=by
 obtain⟨i0,hi,xC,xD,xE⟩:=info_parts Tryz.infoS;have xB : ∀k,v.ownBlock=some k->B<=k:=by
  obtain⟨_,h2⟩:=hown
  rcases h2 with ⟨rfl,_⟩|⟨g,cp,cur,rfl,hg,_⟩
  ·intro k hk;cases hk
  ·intro k hk;cases hk;exact hg
 cases ao with
 | none =>
  obtain rfl:=hn rfl;have hM:M=[]:=by
   cases M with
   | nil=>rfl
   | cons m r=>exact absurd (hr.ptr (by simp)) (by simp)
  subst hM;refine wpList_append_own_none hg s x _ hop B 9 i0 1 underlying22 hi _ _ _ hs hown hx (hK _ w ?_ (Lb _ _))
  rw[LS];exact hown
 | some ad =>
  have xA : ∀j u,(M.map Value.string)[j]? = some u->w.cell? (ad.add j)=some u:=fun j u hu=>by
   have hj:j<M.length:=by have:=(List.getElem?_eq_some_iff.1 hu).1;rwa [Nc] at this
   have:=Ns (hr.ptr (by omega))
   subst this;rw[Addr.add_mid];exact hr.rng j u hu
  refine wpList_append_own w hg s x _ hop B 9 i0 (.string ByteArray.empty) 1 16 underlying22 hi xC xD xE rfl (by decide) _ _ _ hs hown ad M.length cap (M.map Value.string) hx (by simp) xA (by intro u hu;obtain⟨y,_,rfl⟩:=List.mem_map.1 hu;rfl) (by unfold maxLen;omega) (by omega) hB ?_
  intro v' w' h1 h2 _;refine hK v' w' ?_ ((Lb _ _).grown h2 hB xB)
  rw[Qi,Lc,L5];exact h1
theorem Yr{w:World}{B:Nat}{v:Value}{l:LB}(h:Qi w B v l)(o:Obj):Qi (w.alloc o) B v l:=by
 obtain⟨h1,h2⟩:=h;refine⟨h1,?_⟩
 rcases h2 with h2|⟨g,cap,cur,rfl,hg,hh,r⟩
 ·exact .inl h2
 ·exact .inr ⟨g,cap,cur,rfl,hg,by rw[Below.heap_alloc _ _ _ (Array.getElem?_eq_some_iff.1 hh).1];exact hh,r⟩
theorem Qv{w W:World}{B B':Nat}{v:Value}{l:LB}(h:Qi w B v l)(hb:Below B' w W)(hB:w.heap.size<=B'):Qi W B v l:=by
 obtain⟨h1,h2⟩:=h;refine⟨h1,?_⟩
 rcases h2 with h2|⟨g,cap,cur,rfl,hg,hh,r⟩
 ·exact .inl h2
 ·exact .inr ⟨g,cap,cur,rfl,hg,by rw[hb.block g (Lx (Array.getElem?_eq_some_iff.1 hh).1 hB)];exact hh,r⟩
theorem Ur{w:World}{B g n cap:Nat}{l:LB}(h:Qi w B (.slice (some ⟨g,0,none⟩) n cap) l){j:Nat}(hj:j<l.length):w.cell? ⟨g,j,none⟩=some (.string (l.getD j ByteArray.empty))∧w.frozen? ⟨g,j,none⟩=false:=by
 obtain⟨h1,h2⟩:=h
 rcases h2 with ⟨h2,_⟩|⟨g',cap',cur,hv,hg,hh,hc,hm,hz,ht⟩
 ·cases h2
 ·obtain⟨e1,e2,e3⟩:=Iv hv
  cases e1;refine⟨?_,frozen_of_row w g j cur 9 hh⟩
  rw[cell_of_row w g j cur 9 (0,0) hh];have:(cur.toList.take (l.length*1))[j]? = some (.string (l.getD j ByteArray.empty)):=by
   rw[ht];simp[List.getElem?_eq_getElem hj,List.getD_eq_getElem?_getD]
  rw[NC (by omega)] at this
  simpa using this
theorem YK(w:World)(B:Nat):Qi w B (.slice none 0 0) []:=⟨rfl,.inl ⟨rfl,rfl⟩⟩
theorem QmC{w:World}{B g n cap:Nat}{l:LB}(h:Qi w B (.slice (some ⟨g,0,none⟩) n cap) l)(j:Nat)(s:BA):Qi (w.setCell ⟨g,j,none⟩ (.string s)) B (.slice (some ⟨g,0,none⟩) n cap) (l.set j s):=by
 obtain⟨h1,h2⟩:=h;refine⟨by simp,.inr ?_⟩
 rcases h2 with ⟨h2,h3⟩|⟨g',cap',cur,hv,hg,hh,h3,h4,h5,h6⟩
 ·cases h2
 ·obtain⟨e1,e2,e3⟩:=Iv hv
  cases e1;refine⟨g,cap,cur.setIfInBounds j (.string s),by rw[e2];simp,hg,Lp w g j cur _ _ hh,by simpa [e3] using h3,by omega,by simpa [e3] using h5,?_⟩
  have h7:(l.set j s).map Value.string=(l.map Value.string).set j (.string s):=by simp
  rw[h7,<-h6,Is,Array.toList_setIfInBounds,List.take_set]
end St.Rc
namespace St
open Rc
def cE(l:List Nat):List Value:=l.map fun(n:Nat)=>Value.int .i64 (n:Int)
def OwnE(w:World)(B:Nat)(v:Value)(l:List Nat):Prop:=w.ownsRow B 3 1 v l.length (cE l)
theorem Tryz.infoE:(prog.info? 3).map (fun i=>(i.zero,i.size,i.bytes))=some (some (.int .i64 0),1,8):=by kernel_rfl
theorem Qkv(w:World)(B:Nat):OwnE w B (.slice none 0 0) []:=⟨rfl,.inl ⟨rfl,rfl⟩⟩
theorem JS{w:World}{B:Nat}{v:Value}{l:List Nat}(h:OwnE w B v l) : ∃ao cap,v = .slice ao l.length cap ∧ ∀j,j<l.length -> ∃g,v.ownBlock=some g∧ao=some ⟨g,0,none⟩∧w.cell? ⟨g,j,none⟩=some (.int .i64 ((l.getD j 0:Nat):Int)):=by
 have hh:=h
 rcases h.2 with ⟨rfl,e⟩|⟨g,cap,cur,rfl,hg,hb,_⟩
 ·exact⟨none,0,by rw[e],fun j hj=>by omega⟩
 ·refine⟨_,cap,rfl,fun j hj=>⟨g,rfl,rfl,?_⟩⟩
  rw[World.ownsRow.cellAt hh j (by omega),cE,Nt,Ld,Lh hj]
  rfl
theorem JT{w:World}{B:Nat}{v:Value}{l:List Nat}(h:OwnE w B v l){g:Nat}(hg:v.ownBlock=some g):g<w.heap.size:=by
 rcases h.2 with ⟨rfl,e⟩|⟨g',cap,cur,rfl,_,hb,_⟩
 ·cases hg
 ·cases hg;exact(Array.getElem?_eq_some_iff.1 hb).1
structure Sto(w:World)(q p:Nat)(v:Value)(S:SV):Prop where
 blk:w.heap[q]? = some (.cells #[.pointer (some ⟨p,0,none⟩),.int .i64 (S.k:Int),v,.int .u32 (S.chain.toNat:Int),.bool S.lame] 169 (0,0))
 own:OwnE w 0 v S.ends
 k1:1<=S.k
 k2:S.k<=32
 few:S.ends.length<=65536
 low : ∀e∈S.ends,e<=268435456
def Sk(w:World)(q p:Nat)(T:Nat->Prop)(D:DV)(S:SV):Prop :=
 ∃S0 v,Dsk w p S0 D∧Sto w q p v S ∧ ¬S0 q∧(∀g,v.ownBlock=some g->g≠q ∧ ¬S0 g) ∧ ∀x,T x↔S0 x∨x=q∨v.ownBlock=some x
section
variable {w W:World} {q p:Nat} {v:Value} {T:Nat->Prop} {D D':DV} {S S':SV}
theorem Sto.lt(h:Sto w q p v S):q<w.heap.size:=(Array.getElem?_eq_some_iff.1 h.blk).1
theorem Sto.same(h:Sto w q p v S)(hq:W.heap[q]? = w.heap[q]?)(hv : ∀g,v.ownBlock=some g->W.heap[g]? = w.heap[g]?):Sto W q p v S :=
 ⟨hq.trans h.blk,QF h.own hv,h.k1,h.k2,h.few,h.low⟩
theorem Sk.lt(h:Sk w q p T D S){x:Nat}(hx:T x):x<w.heap.size:=by
 obtain⟨S0,v,h1,h2,h3,h4,h5⟩:=h
 rcases(h5 x).1 hx with e|rfl|e
 ·exact h1.lt e
 ·exact h2.lt
 ·exact JT h2.own e
theorem Sk.same(h:Sk w q p T D S)(hb : ∀x,T x->W.heap[x]? = w.heap[x]?):Sk W q p T D S:=by
 obtain⟨S0,v,h1,h2,h3,h4,h5⟩:=h;exact⟨S0,v,h1.same (fun x hx=>hb x ((h5 x).2 (.inl hx))),h2.same (hb q ((h5 q).2 (.inr (.inl rfl)))) (fun g hg=>hb g ((h5 g).2 (.inr (.inr hg)))),h3,h4,h5⟩
theorem Sk.next(h:Sk w q p T D S)(hb:Below w.heap.size w W):Sk W q p T D S:=h.same fun x hx=>hb.block x (h.lt hx)
theorem Yn{W:World}{q:Nat}{a b c d e:Value}{T:TypeId}(h:W.heap[q]? = some (.cells #[a,b,c,d,e] T (0,0))):W.cell? ⟨q,0,none⟩=some a∧W.cell? ⟨q,1,none⟩=some b∧W.cell? ⟨q,2,none⟩=some c∧W.cell? ⟨q,3,none⟩=some d∧W.cell? ⟨q,4,none⟩=some e :=
 ⟨by rw[cell_of_row W q 0 _ _ (0,0) h];rfl,by rw[cell_of_row W q 1 _ _ (0,0) h];rfl,by rw[cell_of_row W q 2 _ _ (0,0) h];rfl,by rw[cell_of_row W q 3 _ _ (0,0) h];rfl,by rw[cell_of_row W q 4 _ _ (0,0) h];rfl⟩
theorem Sk.cells(h:Sk w q p T D S) : ∃ao cap,(w.cell? ⟨q,0,none⟩=some (.pointer (some ⟨p,0,none⟩))∧w.cell? ⟨q,1,none⟩=some (.int .i64 (S.k:Int))∧w.cell? ⟨q,2,none⟩=some (.slice ao S.ends.length cap)∧w.cell? ⟨q,3,none⟩=some (.int .u32 (S.chain.toNat:Int))∧w.cell? ⟨q,4,none⟩=some (.bool S.lame)) ∧
  (∀j,j<S.ends.length -> ∃g,ao=some ⟨g,0,none⟩∧w.cell? ⟨g,j,none⟩=some (.int .i64 ((S.ends.getD j 0:Nat):Int))):=by
 obtain⟨S0,v,h1,h2,h3,h4,h5⟩:=h;obtain⟨ao,cap,rfl,hc⟩:=JS h2.own;exact⟨ao,cap,Yn h2.blk,fun j hj=>by obtain⟨g,_,e1,e2⟩:=hc j hj;exact⟨g,e1,e2⟩⟩
theorem Sk.seen(h:Sk w q p T D S) : ∃ao cap,∀W,Below w.heap.size w W->(W.cell? ⟨q,0,none⟩=some (.pointer (some ⟨p,0,none⟩))∧W.cell? ⟨q,1,none⟩=some (.int .i64 (S.k:Int))∧W.cell? ⟨q,2,none⟩=some (.slice ao S.ends.length cap)∧W.cell? ⟨q,3,none⟩=some (.int .u32 (S.chain.toNat:Int))∧W.cell? ⟨q,4,none⟩=some (.bool S.lame)):=by
 obtain⟨S0,v,h1,h2,h3,h4,h5⟩:=h;obtain⟨ao,cap,rfl,hc⟩:=JS h2.own;exact⟨ao,cap,fun W hW=>Yn ((hW.block q h2.lt).trans h2.blk)⟩
theorem Sk.small(h:Sk w q p T D S):1<=S.k∧S.k<=32∧S.ends.length<=65536∧(∀i,S.ends.getD i 0<=268435456)∧(∀i,UK S.ends i<=268435456)∧lst S.ends<=268435456:=by
 obtain⟨S0,v,h1,h2,h3,h4,h5⟩:=h;have hg : ∀i,S.ends.getD i 0<=268435456:=fun i=>by
  rw[Ld]
  by_cases hi:i<S.ends.length
  ·rw[Lh hi];exact h2.low _ (L3 _)
  ·rw[Nu (by omega)];simp
 have he : ∀i,UK S.ends i<=268435456:=fun i=>by
  unfold UK
  split
  ·omega
  ·exact hg _
 exact⟨h2.k1,h2.k2,h2.few,hg,he,by rw[<-Qbm];exact he _⟩
theorem Sk.disk(h:Sk w q p T D S) : ∃S0,Dsk w p S0 D:=by
 obtain⟨S0,v,h1,_⟩:=h;exact⟨S0,h1⟩
def SkM(w w':World)(q p:Nat)(T:Nat->Prop)(D':DV)(S':SV):Prop := ∃T',Sk w' q p T' D' S'∧(∀x,T' x->T x∨w.heap.size<=x)∧Upo T w w'
theorem SkM.of(h:Sk w q p T D S)(hb:Below w.heap.size w W):SkM w W q p T D S:=⟨T,h.next hb,fun _ hx => .inl hx,Upo.of hb⟩
theorem SkM.first{w1 w2:World}(hb:Below w.heap.size w w1)(h:SkM w1 w2 q p T D S):SkM w w2 q p T D S:=by
 obtain⟨T',h1,h2,h3⟩:=h;exact⟨T',h1,fun x hx=>(h2 x hx).imp id (fun e=>Lu hb.size e),(Upo.of hb).trans h3 (fun _ _ q=>q)⟩
theorem SkM.last{w1 w2:World}(h:SkM w w1 q p T D S)(hb:Below w1.heap.size w1 w2):SkM w w2 q p T D S:=by
 obtain⟨T',h1,h2,h3⟩:=h;exact⟨T',h1.next hb,h2,h3.next hb⟩
theorem Qb0{S0:Nat->Prop}{v:Value}(h2:Sto w q p v S)(h3 : ¬S0 q)(h4 : ∀g,v.ownBlock=some g->g≠q ∧ ¬S0 g)(h5 : ∀x,T x↔S0 x∨x=q∨v.ownBlock=some x)(hm:Mvd w W p S0 D'):SkM w W q p T D' S:=by
 obtain⟨S1,m1,m2,m3⟩:=hm;refine⟨fun x=>S1 x∨x=q∨v.ownBlock=some x,⟨S1,v,m1,h2.same (m3.block q h2.lt h3) (fun g hg=>m3.block g (JT h2.own hg) (h4 g hg).2),fun hq => ?_,fun g hg=>⟨(h4 g hg).1,fun e => ?_⟩,fun _=>Iff.rfl⟩,fun x hx => ?_,m3.mono (fun x _ hx=>(h5 x).2 (.inl hx))⟩
 ·rcases m2 q hq with e|e
  ·exact h3 e
  ·have:=h2.lt;omega
 ·rcases m2 g e with e|e
  ·exact(h4 g hg).2 e
  ·have:=JT h2.own hg;omega
 ·rcases hx with e|e
  ·exact(m2 x e).imp (fun e=>(h5 x).2 (.inl e)) id
  ·exact .inl ((h5 x).2 (.inr e))
def Rmy(D:DV):Prop:=D.acts+1<=4611686018427387904∧D.L.length<1099511627776∧D.free<=4611686018427387904
theorem Dsk.rmy{S0:Nat->Prop}(h:Dsk w p S0 D)(hr:Rmy D)(s:List UInt8):D.down=false->D.free+(Qe D.L s).now.length<=9223372036854775807:=fun _=>by
 obtain⟨m,R,ka,kb,ko,kc,h1,h2⟩:=h;have:(Qe D.L s).now.length<=268435456:=by
  by_cases hm:s∈Qh D.L
  ·exact(h1.fil s hm (by simp)).b1
  ·rw[YE hm];exact Ll _
 have:=hr.2.2;omega
theorem Sk.write(h:Sk w q p T D S)(hr:Rmy D)(nm dt:BA)(hs:nm.size<=maxLen)(off:Int)(ho1 : -9223372036854775808<=off)(ho2:off<=9223372036854775807)(ht:dt.size<=140737488355328) :
  Calls prog 268 #[.pointer (some ⟨p,0,none⟩),.string nm,.int .i64 off,.string dt] w fun e w'=>e = .returned (.int .i64 (wrD D nm.data.toList off dt.data.toList).2)∧SkM w w' q p T (wrD D nm.data.toList off dt.data.toList).1 S:=by
 obtain⟨S0,v,h1,h2,h3,h4,h5⟩:=h;exact(h1.write nm dt hs off ho1 ho2 ht hr.1 hr.2.1 (h1.rmy hr _)).mono fun e w' z=>⟨z.1,Qb0 h2 h3 h4 h5 z.2⟩
theorem Sk.cut(h:Sk w q p T D S)(hr:Rmy D)(nm:BA)(hs:nm.size<=maxLen)(off:Int)(ho1 : -9223372036854775808<=off)(ho2:off<=9223372036854775807) :
  Calls prog 156 #[.pointer (some ⟨p,0,none⟩),.string nm,.int .i64 off] w fun e w'=>e = .returned (.int .i64 (Jg D nm.data.toList off).2)∧SkM w w' q p T (Jg D nm.data.toList off).1 S:=by
 obtain⟨S0,v,h1,h2,h3,h4,h5⟩:=h;exact(h1.cut nm hs off ho1 ho2 hr.1 hr.2.1 (h1.rmy hr _)).mono fun e w' z=>⟨z.1,Qb0 h2 h3 h4 h5 z.2⟩
theorem Sk.sync(h:Sk w q p T D S)(hr:Rmy D)(nm:BA)(hs:nm.size<=maxLen) :
  Calls prog 157 #[.pointer (some ⟨p,0,none⟩),.string nm] w fun e w'=>e = .returned (.int .i64 (Q1 D nm.data.toList).2)∧SkM w w' q p T (Q1 D nm.data.toList).1 S:=by
 obtain⟨S0,v,h1,h2,h3,h4,h5⟩:=h;exact(h1.sync nm hs hr.1 hr.2.1 (h1.rmy hr _)).mono fun e w' z=>⟨z.1,Qb0 h2 h3 h4 h5 z.2⟩
theorem Sk.read(h:Sk w q p T D S)(s:BA)(hs:s.size<=maxLen)(off y:Int)(ho1 : -9223372036854775808<=off)(ho2:off<=9223372036854775807)(hq1 : -9223372036854775808<=y)(hq2:y<=9223372036854775807) :
  Calls prog 152 #[.pointer (some ⟨p,0,none⟩),.string s,.int .i64 off,.int .i64 y] w fun e w'=>e = .returned (.tuple #[.string (tx (rdD D s.data.toList off y).1),.int .i64 (rdD D s.data.toList off y).2])∧Below w.heap.size w w':=by
 obtain⟨S0,h1⟩:=h.disk;exact h1.read s hs off y ho1 ho2 hq1 hq2
theorem Sk.size(h:Sk w q p T D S)(s:BA)(hs:s.size<=maxLen):Calls prog 151 #[.pointer (some ⟨p,0,none⟩),.string s] w fun e w'=>e = .returned (.int .i64 (JD D s.data.toList:Int))∧w'=w:=by
 obtain⟨S0,h1⟩:=h.disk;exact h1.size s hs
theorem Sk.sz(h:Sk w q p T D S)(s:List UInt8):(Qe D.L s).now.length<=268435456:=by
 obtain⟨S0,h⟩:=h.disk;obtain⟨m,R,ka,kb,ko,kc,h1,h2⟩:=h
 by_cases hm:s∈Qh D.L
 ·exact(h1.fil s hm (by simp)).b1
 ·rw[YE hm];exact Ll _
end
end St
namespace St.Pl
theorem Qfy(n k:Nat)(hn:n<2^64):(bits BinOp.and IntKind.u64 ((n:Int) / 2^k) 1 == 1)=decide (n / 2^k % 2=1):=by
 have e:((n:Int) / 2^k)=((n / 2^k:Nat):Int):=by simp
 rw[e];have hm:n / 2^k<18446744073709551616:=NT (NM _ _) hn
 revert hm
 generalize n / 2^k=m;intro hm;have:=bits_and_u64_nat m 1 hm (by decide)
 rw[show(1:Int)=((1:Nat):Int) from rfl,this,IU]
 by_cases h:m % 2=1
 ·simp[h]
 ·have:m % 2=0:=by omega
  simp[this]
theorem YR(n k:Nat)(w:World)(hn:n<2^64)(hk:k<64) :
  Calls prog 224 #[.int .u64 n,.int .i64 k] w fun e w'=>e = .returned (.bool (decide (n / 2^k % 2=1)))∧w'=w:=by
 have xA:(0:Int)<=(k:Int):=Lf _
 go_enter func224,ntmps224;go_wp2
 go_ret
 refine⟨?_,rfl⟩
 rw[<-Qfy n k hn]
 rfl
theorem Jw(n:Nat)(w:World)(hn:n<2^64) :
  Calls prog 138 #[.int .u64 n] w fun e w'=>e = .returned (.int .i64 (Qy 64 n:Nat))∧w'=w:=by
 go_enter func138,ntmps138;go_wp2
 go_loopg [3,5] 64 (fun g c i wr => ∃k m:Nat,k<=64∧g=64 - k∧i = .int .i64 k∧c = .int .i64 m∧m<=k∧m+Qy (64 - k) (n / 2^k)=Qy 64 n∧w=wr)
 case atStart=>go_light;exact⟨0,0,Ll _,rfl,rfl,rfl,Ll _,by simp,rfl⟩
 case round =>
  obtain⟨k,m,hk,rfl,rfl,rfl,hm,hs,rfl⟩:=hrel;have xA:(0:Int)<=(k:Int):=Lf _;have xC:(0:Int)<=(m:Int):=Lf _;have xD:(m:Int)<=64:=by omega
  by_cases hlt:k<64
  ·have xB:(k:Int)<64:=by omega
   have HS:=Qat k n hlt;have HC:=YR n k w hn hlt
   by_cases hb:n / 2^k % 2=1
   ·rw[LA hb] at HC
    go_wp2_with (go_at_call 224;refine HC.mono ?_;rintro e w' ⟨rfl,rfl⟩)
    go_roundg (64 - (k+1))
    case rel=>go_light;exact⟨k+1,m+1,by omega,rfl,by go_num,by go_num,by omega,by omega,rfl⟩
    case measure=>go_light;omega
   ·rw[Ls hb] at HC
    go_wp2_with (go_at_call 224;refine HC.mono ?_;rintro e w' ⟨rfl,rfl⟩)
    go_roundg (64 - (k+1))
    case rel=>go_light;exact⟨k+1,m,by omega,rfl,by go_num,rfl,by omega,by omega,rfl⟩
    case measure=>go_light;omega
  ·obtain rfl:k=64:=by omega
   clear hk hlt;go_wp2
   go_ret
   refine⟨?_,rfl⟩
   rw[<-hs]
   rfl
theorem UJ(n:Nat)(w:World)(hn:n<=2^40) :
  Calls prog 393 #[.int .u64 n] w fun e w'=>e = .returned (.int .u64 (N n:Nat))∧w'=w:=by
 have HC:=Jw n w (by omega)
 have h1:=JR 64 n;have h2:=Qdy 64 n;have h3:=N_eq n;generalize N n=x at *;generalize Qy 64 n=y at *;obtain⟨d,hd⟩ : ∃d:Nat,2*n=d:=⟨_,rfl⟩;have e1:IntKind.u64.wrap (2*(n:Int))=(d:Int):=by rw[IntKind.wrap_u64];omega
 have e2:IntKind.u64.wrap (y:Int)=(y:Int):=by rw[IntKind.wrap_u64];omega
 have e3:IntKind.u64.wrap ((d:Int) - (y:Int))=(x:Int):=by rw[IntKind.wrap_u64];omega
 clear hn h1 h2 h3 hd
 go_enter func393,ntmps393
 go_wp2_with (go_at_call 138;refine HC.mono ?_;rintro e w' ⟨rfl,rfl⟩)
 go_ret
 exact⟨rfl,rfl⟩
theorem Qim(n:Nat)(w:World)(hn:n<=2^40) :
  Calls prog 328 #[.int .u64 n] w fun e w'=>e = .returned (.tuple #[.int .u64 (N n:Nat),.bool true])∧w'=w:=by
 have HC:=UJ n w hn;have ht : ¬(1099511627776:Int)<(n:Int):=by omega
 generalize N n=x at *;clear hn
 go_enter func328,ntmps328
 go_wp2_with (go_at_call 393;refine HC.mono ?_;rintro e w' ⟨rfl,rfl⟩)
 go_ret2
 exact⟨rfl,rfl⟩
end St.Pl
end Go.Proofs.YtoblgjledefdbaaGreatDoor
