/- Own work. -/
import Derived.Test.YtoblgjledefdbaaGreatDoorQt01
set_option maxRecDepth 100000
set_option maxHeartbeats 4000000
namespace Go.Proofs.YtoblgjledefdbaaGreatDoor
open Go.RowKit
attribute [local go_sem ↓] Go.wp_at_zero Go.wp_at_succ
open Go.Proofs.Tryz
section
open Pl (Qz pw)
variable{c j k n q t:Nat}
def ff(c:Nat)(L:LB)(h:Int)(k:Nat):Option BA:=if 0<=h∧(k+1)*2^h.toNat<=L.length then some (nd c L h.toNat k) else none
def fj(c:Nat)(L:LB)(x:BA)(j:Nat)(h:Int)(k:Nat):Option BA:=if 0<=h∧h<=(j:Int)∧(k+1)*2^h.toNat=L.length+1 then some (nd c (L++[x]) h.toNat k) else ff c L h k
theorem QgG(c:Nat)(L M:LB)(h k:Nat)(hk:(k+1)*2^h<=L.length):nd c (L++M) h k=nd c L h k:=by
 refine JO h k k fun t ht=> ?_
 rw[Ld,Ld,Ly];rw[LS,L9] at hk;omega
theorem QpG(c:Nat)(L:LB)(n h k:Nat)(hk:(k+1)*2^h<=n)(hn:n<=L.length):nd c (L.take n) h k=nd c L h k:=by
 have:=QgG c (L.take n) (L.drop n) h k (by rw[Lx];omega)
 rw[Nv] at this;exact this.symm
theorem Qgp(c:Nat)(L:LB)(h k:Nat)(hk:(k+1)*2^h<=L.length):ff c L (h:Int) k=some (nd c L h k):=by
 rw[ff,Lf ⟨Lh _,by rw[LP];exact hk⟩,LP]
theorem Qqr(c:Nat)(L:LB)(h k:Nat)(hk:¬(k+1)*2^h<=L.length):ff c L (h:Int) k=none:=by
 rw[ff,Le];rw[LP];exact fun x=>hk x.2
theorem Qm2(hc:c<=32){L:LB}{h:Int}{s:BA}(e:ff c L h k=some s):s.size=c:=by
 rw[ff] at e
 split at e
 ·injection e with e
  rw[<-e,Yt hc]
 ·cases e
theorem Qkx(c:Nat)(L:LB)(x:BA):put (ff c L) 0 L.length (nd c (L++[x]) 0 L.length)=fj c L x 0:=by
 funext h k
 rw[put,fj]
 by_cases e:h=0∧k=L.length
 ·obtain⟨rfl,rfl⟩:=e;rw[Lf ⟨rfl,rfl⟩,Lf ⟨by decide,by decide,by simp⟩]
  rfl
 ·rw[Le e,Le];rintro⟨h0,h1,h2⟩;obtain rfl:h=0:=by simp at h1;omega
  simp at h2;exact e ⟨rfl,h2⟩
theorem Qhw(hq:n=2^j*q):n/2^j=q:=by
 rw[hq,Wd _ (LN j)]
theorem Qm6(c:Nat)(L:LB)(x:BA)(j q:Nat)(hq:L.length+1=2^(j+1)*(q+1)):put (fj c L x j) ((j+1:Nat):Int) q (nd c (L++[x]) (j+1) q)=fj c L x (j+1):=by
 funext h k
 rw[put]
 by_cases e:h=((j+1:Nat):Int)∧k=q
 ·obtain⟨rfl,rfl⟩:=e;rw[Lf ⟨rfl,rfl⟩,fj,LP,Lf ⟨by omega,Int.le_refl _,by rw[hq,LF]⟩]
 ·rw[Le e,fj,fj]
  by_cases g:0<=h∧h<=(j:Int)∧(k+1)*2^h.toNat=L.length+1
  ·rw[Lf g,Lf ⟨g.1,by omega,g.2.2⟩]
  ·rw[Le g,Le];rintro⟨h0,h1,h2⟩
   by_cases hj:h<=(j:Int)
   ·exact g ⟨h0,hj,h2⟩
   ·obtain rfl:h=((j+1:Nat):Int):=by omega
    rw[LP,hq,LF] at h2;have:=Nat.eq_of_mul_eq_mul_left (LN (j+1)) h2;exact e ⟨rfl,by omega⟩
theorem Qpp(c:Nat)(L:LB)(x:BA)(t:Nat)(hn:L.length<65536)(ht:tr 64 (L.length+1)=t):fj c L x t=ff c (L++[x]):=by
 funext h k
 rw[fj,show ff c (L++[x]) h k=if 0<=h∧(k+1)*2^h.toNat<=L.length+1 then some (nd c (L++[x]) h.toNat k) else none by rw[ff,Lc,LK]]
 by_cases h0:0<=h
 ·obtain⟨i,rfl⟩:∃i:Nat,h=(i:Int):=⟨h.toNat,by omega⟩
  rw[LP]
  by_cases g:(k+1)*2^i<=L.length
  ·rw[Le (by rintro⟨_,_,e⟩;omega),Lf ⟨h0,by omega⟩,Qgp c L i k g,QgG c L _ i k g]
  ·by_cases g2:(k+1)*2^i=L.length+1
   ·have hi:i<=64:=by
     apply Ig
     intro hlt;have h1:2^64<=2^i:=Na (by decide) (by omega)
     have h2:2^i<=(k+1)*2^i:=Il _ (by omega)
     omega
    have:=(Qmg 64 i (L.length+1) hi).1;rw[ht,<-g2,Nat.mul_mod_left] at this;have xA:(i:Int)<=(t:Int):=Int.ofNat_le.2 (Ig fun hx=>this hx rfl)
    rw[Lf ⟨h0,xA,g2⟩,Lf ⟨h0,by omega⟩]
   ·rw[Le (by rintro⟨_,_,e⟩;exact g2 e),Le (by rintro⟨_,e⟩;omega),Qqr c L i k g]
 ·rw[Le (by rintro⟨e,_⟩;exact h0 e),Le (by rintro⟨e,_⟩;exact h0 e),ff,Le (by rintro⟨e,_⟩;exact h0 e)]
theorem Qm5(c:Nat)(L:LB)(x:BA)(j q:Nat)(hq:L.length+1=2^(j+1)*(q+1)):fj c L x j (j:Int) (2*q)=some (nd c (L++[x]) j (2*q)):=by
 have hp:=LN j;rw[LH,LZ,LF] at hq;have e1:(2*q+1)*2^j+2^j=L.length+1:=by
  rw[hq];have:2*(q+1)=2*q+1+1:=by omega
  rw[this,LS (2*q+1),L9]
 rw[fj,Le,Qgp c L j (2*q) (by omega),QgG c L _ j (2*q) (by omega)]
 rw[LP];rintro⟨_,_,e⟩;omega
def nw(c:Nat)(M:LB)(t:Nat):LB:=(List.range (t+1)).map fun j=>nd c M j (M.length/2^j-1)
theorem QpK(c:Nat)(M:LB)(t:Nat):(nw c M t).length=t+1:=by simp[nw]
theorem QnC(c:Nat)(M:LB)(t:Nat):nw c M (t+1)=nw c M t++[nd c M (t+1) (M.length/2^(t+1)-1)]:=by
 simp[nw,List.range_succ]
theorem QnD(c:Nat)(M:LB):nw c M 0=[nd c M 0 (M.length-1)]:=by
 simp[nw,List.range_succ]
theorem Qme(ht:tr 64 n=t)(hj:j<=t):∃q,n=2^j*q:=by
 have xA:=QqL 64 n;have h1:=(Qmg 64 j n (by omega)).2
 have hm:n%2^j=0:=by
  apply Classical.byContradiction
  intro h;have:=h1 h;omega
 exact⟨n/2^j,(Nat.mul_div_cancel' (Nat.dvd_of_mod_eq_zero hm)).symm⟩
theorem Qmh(h1:0<n)(h2:n<=65536):tr 64 n<=16:=by
 apply Ig
 intro h;obtain⟨q,hq⟩:=Qme (n:=n) (t:=tr 64 n) (j:=17) rfl (by omega)
 have:(2:Nat)^17=131072:=by decide
 rw[this] at hq;omega
theorem QbV(c:Nat)(L:LB):∀(h lo:Nat),lo=L.length/2^h*2^h->(Cv.dnL h lo L.length).map (fun b=>nd c L b.1 b.2)=pks c L h ∧ ∀b∈Cv.dnL h lo L.length,(b.2+1)*2^b.1<=L.length
 | 0,lo,_=>⟨rfl,fun b hb=>by cases hb⟩
 | h+1,lo,hlo=>by
  have hp:=LN h;have e2:2^(h+1)=2*2^h:=by rw[LH,LF]
  have d1:=N4 L.length (2^h);have d2:=N4 (L.length/2^h) 2;have d3:L.length/2^(h+1)=L.length/2^h/2:=by rw[LH,L4]
  have m1:=Ia L.length hp;rw[d3,e2] at hlo;generalize hX:L.length/2^h=X at *;have xA:lo=(2*(X/2))*2^h:=by rw[hlo,LF 2 (X/2),LZ]
  have e3:2^h*X=X*2^h:=LF _ _;rw[Cv.dnL,show pw h=2^h from rfl]
  by_cases hb:X%2=1
  ·have xB:X=2*(X/2)+1:=by omega
   have e4:X*2^h=lo+2^h:=by rw[xA];conv=>lhs;rw[xB,LS,L9]
   have xC:2^h<=L.length-lo:=by omega
   have e5:lo/2^h=2*(X/2):=by rw[xA,ND _ hp]
   obtain⟨r1,r2⟩:=QbV c L h (lo+2^h) (by rw[hX,<-e4])
   rw[Lf xC,Qeh (by rw[hX];exact hb),ID,r1,e5,hX]
   refine⟨by rw[show X-1=2*(X/2) by omega],fun b hbm=> ?_⟩
   rcases List.mem_cons.1 hbm with rfl|hbm
   ·show(2*(X/2)+1)*2^h<=_
    rw[<-xB];omega
   ·exact r2 b hbm
  ·have xB:X=2*(X/2):=by omega
   have e4:X*2^h=lo:=by rw[xA];conv=>lhs;rw[xB]
   have xC:¬2^h<=L.length-lo:=by omega
   obtain⟨r1,r2⟩:=QbV c L h lo (by rw[hX,<-e4])
   rw[Le xC,Qcn (by rw[hX];exact hb)]
   exact⟨r1,r2⟩
theorem QaQ(c:Nat)(L:LB)(n:Nat)(hn:n<=L.length)(h40:n<=2^40):(Cv.cov 0 n).map (fun b=>nd c L b.1 b.2)=pks c (L.take n) 41 ∧ ∀b∈Cv.cov 0 n,(b.2+1)*2^b.1<=n:=by
 have hl:(L.take n).length=n:=by rw[Lx];omega
 have hz:0=(L.take n).length/2^41*2^41:=by rw[hl,NX (by omega),Wm]
 obtain⟨r1,r2⟩:=QbV c (L.take n) 41 0 hz;rw[hl] at r1 r2;rw[Cv.Ub n h40];refine⟨?_,r2⟩
 rw[<-r1];refine NG fun b hb=> ?_
 exact(QpG c L n b.1 b.2 (r2 b hb) hn).symm
end
namespace Cv
open Pl
theorem Tryz.infoU:(prog.info? 48).map (fun i=>(i.zero,i.size,i.bytes))=some (some (.int .u64 0),1,8):=by kernel_rfl
theorem Tryz.infoB:(prog.info? 249).map (fun i=>(i.zero,i.size,i.bytes))=some (some (.agg #[.int .i64 0,.int .u64 0]),2,16):=by kernel_rfl
abbrev cU(l:List Nat):List Value:=l.map (fun x:Nat=>Value.int .u64 x)
def cB:List (Int×Nat)->List Value
 | []=>[]
 | b::r=> .int .i64 b.1 :: .int .u64 b.2::cB r
def zl(L:List (Nat×Nat)):List (Int×Nat):=L.map (fun b=>((b.1:Int),b.2))
theorem QcI(L M:List (Nat×Nat)):zl (L++M)=zl L++zl M:=LQ
theorem Ye(L:List (Nat×Nat)):(zl L).length=L.length:=LY _
theorem Qqh(h k:Nat):zl [(h,k)]=[((h:Int),k)]:=rfl
theorem QA(l:List (Int×Nat)):(cB l).length=l.length*2:=by
 induction l with
 | nil=>rfl
 | cons b r ih=>simp[cB,ih];omega
theorem QdF(l m:List (Int×Nat)):cB (l++m)=cB l++cB m:=by
 induction l with
 | nil=>rfl
 | cons b r ih=>simp[cB,ih]
theorem QaM(l:List (Int×Nat)):∀u∈cB l,u.oneCell'=true:=by
 induction l with
 | nil=>intro u hu;cases hu
 | cons b r ih=>
  intro u hu;simp[cB] at hu
  rcases hu with rfl|rfl|hu
  ·rfl
  ·rfl
  ·exact ih u hu
theorem Qo9(l:List Nat):∀u∈cU l,u.oneCell'=true:=by
 intro u hu;simp[cU] at hu;obtain⟨y,_,rfl⟩:=hu;rfl
theorem QjU(l:List (Int×Nat))(j:Nat)(h:Int)(k:Nat)(hj:l[j]? = some (h,k)):(cB l)[2*j]? = some (.int .i64 h)∧(cB l)[2*j+1]? = some (.int .u64 k):=by
 induction l generalizing j with
 | nil=>simp at hj
 | cons b r ih=>
  cases j with
  | zero=>simp at hj;subst hj;exact⟨rfl,rfl⟩
  | succ j=>
   have:=ih j (by simpa using hj)
   rw[show 2*(j+1)=2*j+1+1 by omega]
   simpa [cB] using this
abbrev YI(w:World)(base:Nat)(v:Value)(l:List (Int×Nat)):Prop:=w.ownsRow base 249 2 v l.length (cB l)
abbrev Own(w:World)(base:Nat)(v:Value)(l:List Nat):Prop:=w.ownsRow base 48 1 v l.length (cU l)
def RdC(w:World)(u:Value)(m:Nat)(news:List Value):Prop :=
 ∃ao cap,u= .slice ao m cap∧(ao=none->m=0∧cap=0) ∧ ∀ad,ao=some ad -> ∀j c,news[j]? = some c->w.cell? (ad.add j)=some c
variable{news xs:List Value}
theorem QhN{w:World}{B e size:Nat}{v:Value}{n:Nat}(h:w.ownsRow B e size v n xs):RdC w v n xs:=by
 have h0:=h;obtain⟨h1,h2⟩:=h
 rcases h2 with ⟨rfl,rfl⟩|⟨g,cap,cur,rfl,hg,hh,hc⟩
 ·exact⟨none,0,rfl,fun _=>⟨rfl,rfl⟩,fun ad h=>by cases h⟩
 ·exact⟨Zp g,cap,rfl,(fun h=>by cases h),fun ad h=>by cases h;exact h0.cells rfl⟩
theorem Qcr{w w':World}{u:Value}{m:Nat}(h:RdC w u m news)(hb:Bl w w'):RdC w' u m news:=by
 obtain⟨ao,xA,h1,h2,h3⟩:=h;exact⟨ao,xA,h1,h2,fun ad ha j c hj=>(hb.cell (Lo w _ (h3 ad ha j c hj))).trans (h3 ad ha j c hj)⟩
structure Ap(w w':World)(B e size:Nat)(v v':Value)(n:Nat)(xs:List Value):Prop where
 own:w'.ownsRow B e size v' n xs
 grown:w.grownBy w' v.ownBlock
 fresh:v'.ownBlock=v.ownBlock ∨ ∀g,v'.ownBlock=some g->w.heap.size<=g
variable{ops:Array Oper}{o:Oper}{a:Act}{Q:Exit->Act->World->Prop}{w w' w1:World}{B b e n:Nat}{v:Value}
theorem Jm(w:World){rest:List Oper}
  (hg:o.guard=none) (s x:Operand) (t:TypeId) (hop:o.op=Op.call { callee:=Callee.builtin Builtin.append,args:=#[s,x],argTypes:=#[t,t] })
  (B:Nat) (e:TypeId) (i:TypeInfo) (z:Value) (size bytes:Nat) (h1:prog.underlying t=some (.slice e)) (h2:prog.info? e=some i) (h3:i.zero=some z) (h4:i.size=size) (h5:i.bytes=bytes) (h6:z.cells.size=size) (h7:0<size)
  (v:Value) (n:Nat) (xs:List Value) (hs:a.eval s=v) (hown:w.ownsRow B e size v n xs) (u:Value) (m:Nat) (news:List Value) (hx:a.eval x=u) (hr:RdC w u m news) (hn:news.length=m*size) (h1c:∀u∈news,u.oneCell'=true)
  (b1:n+m<=maxLen) (b2:(n+m)*bytes<=140737488355328) (hB:B<=w.heap.size)
  (hK:∀v' w',Ap w w' B e size v v' (n+m) (xs++news)->wpList prog ops Q rest (a.put o.dst v') w'):wpList prog ops Q (o::rest) a w:=by
 obtain⟨ao,xD,rfl,xC,xA⟩:=hr
 cases ao with
 | none=>
  obtain⟨rfl,rfl⟩:=xC rfl;have xE:news=[]:=List.length_eq_zero_iff.1 (by rw[hn];omega)
  subst xE;exact wpList_append_own_none hg s x _ hop B e i size h1 h2 v n xs hs hown hx (hK _ w ⟨by simpa using hown,World.grownBy.refl w _,.inl rfl⟩)
 | some ad=>
  have xB:=hown;obtain⟨g1,g2⟩:=hown
  rcases g2 with ⟨rfl,rfl⟩|⟨g,cp,cur,rfl,hgb,hh,hc⟩
  ·have xF:xs=[]:=List.length_eq_zero_iff.1 (by omega)
   subst xF;refine wpList_append_own w hg s x _ hop w.heap.size e i z size bytes h1 h2 h3 h4 h5 h6 h7 _ 0 [] hs (Np _ _ _ _) ad m xD news hx hn (xA ad rfl) h1c b1 b2 (La _) ?_
   intro v' w' r1 r2 _;exact hK v' w' ⟨r1.mono hB,r2,.inr fun k hk=>(r1.lt k hk).1⟩
  ·by_cases hfit:n+m<=cp
   ·refine wpList_append_fits w hg s x _ hop B e i size h1 h2 h4 g n cp xs hs xB ad m xD news hx hn (xA ad rfl) h1c hfit ?_
    intro w' r1 r2;exact hK _ w' ⟨r1,r2,.inl rfl⟩
   ·refine wpList_append_grows w hg s x _ hop e i z size bytes h1 h2 h3 h4 h5 h6 h7 (Zp g) n cp xs hs (fun h=>by cases h) g1 (fun b hb=>by cases hb;exact xB.cells rfl) ad m xD news hx hn (xA ad rfl) h1c (by omega) b1 b2 ?_
    intro v' w' r1 r2;exact hK v' w' ⟨r1.mono hB,⟨r2.os,r2.tape,r2.output,r2.size,fun k hk _=>r2.block k hk (by simp)⟩,.inr fun k hk=>(r1.lt k hk).1⟩
theorem Qbl(w:World){rest:List Oper}
  (hg:o.guard=none) (s x:Operand) (hop:o.op=Op.call { callee:=Callee.builtin Builtin.append,args:=#[s,x],argTypes:=#[187,187] })
  (B:Nat) (v:Value) (L:List (Int×Nat)) (hs:a.eval s=v) (hown:YI w B v L) (u:Value) (M:List (Int×Nat)) (hx:a.eval x=u) (hr:RdC w u M.length (cB M))
  (hlen:L.length+M.length<=1048576) (hB:B<=w.heap.size)
  (hK:∀v' w',YI w' B v' (L++M)->w.grownBy w' v.ownBlock->(v'.ownBlock=v.ownBlock ∨ ∀g,v'.ownBlock=some g->w.heap.size<=g)->wpList prog ops Q rest (a.put o.dst v') w'):wpList prog ops Q (o::rest) a w:=by
 obtain⟨i0,hi,xA,xB,xC⟩:=info_parts Tryz.infoB;refine Jm w hg s x _ hop B 249 i0 (.agg #[.int .i64 0,.int .u64 0]) 2 16 underlying187 hi xA xB xC rfl (by decide) v L.length (cB L) hs hown u M.length (cB M) hx hr (QA M) (QaM M) (by unfold maxLen;omega) (by omega) hB ?_
 intro v' w' h;refine hK v' w' ?_ h.grown h.fresh
 rw[YI,QdF,Lc];exact h.own
theorem Qi7(w:World)(h:Int)(k t:Nat):RdC (w.alloc (.cells #[.int .i64 h,.int .u64 k] t)) (.slice (Zp w.heap.size) 1 1) [(h,k)].length (cB [(h,k)]):=by
 refine⟨Zp w.heap.size,1,rfl,(fun h=>by cases h),fun ad ha j c hj=> ?_⟩
 cases ha
 match j,hj with
 | 0,hj=>simp[cB] at hj;subst hj;simp[Addr.add,World.cell?_alloc_at]
 | 1,hj=>simp[cB] at hj;subst hj;simp[Addr.add,World.cell?_alloc_at]
theorem QiV{size:Nat}{l:List Value}(h:w.ownsRow B e size v n l)(hb:Bl w w'):w'.ownsRow B e size v n l:=by
 obtain⟨h1,h2⟩:=h;refine⟨h1,?_⟩
 rcases h2 with h2|⟨g,cap,cur,hv,hg,hh,h3⟩
 ·exact .inl h2
 ·exact .inr ⟨g,cap,cur,hv,hg,(hb.block g (by have:=(Array.getElem?_eq_some_iff.1 hh).1;exact this)).trans hh,h3⟩
theorem QgJ{wr:World}{size:Nat}(hB:Below B w wr)(hs:B<=wr.heap.size)(hown:wr.ownsRow B e size v n xs)(hg:wr.grownBy w1 v.ownBlock):Below B w w1∧B<=w1.heap.size:=by
 have h1:=hg.size;exact⟨hB.grown hg hs (fun j hj=>(hown.lt j hj).1),by omega⟩
theorem Qcb(h:Nat)(w:World)(hh:h<64):Rf 359 #[.int .i64 h] w (.int .u64 (pw h:Nat)):=by
 have xC:(0:Int)<=(h:Int):=Lh _;have xD:(h:Int)<64:=by omega
 have xE:¬(h:Int)<0:=by omega
 obtain⟨p,hp⟩:∃p:Nat,pw h=p:=⟨_,rfl⟩;have e1:IntKind.u64.wrap ((2:Int)^h)=(p:Int):=by
  have xB:pw h<=pw 63:=OE (by omega)
  have xA:pw 63=2^63:=rfl;have e:((2:Int)^h)=(p:Int):=by rw[<-hp];simp[pw]
  rw[e,IntKind.wrap_u64];omega
 rw[hp];clear hp hh
 go_enter func359,ntmps359;go_wp2
 go_ret
 exact⟨rfl,rfl⟩
theorem Yg(o:Obj)(hb:b<w.heap.size):(w.alloc o).heap[b]? = w.heap[b]? := (World.grownBy_alloc w o none).block b hb (by simp)
theorem Qat{size:Nat}(h:w.ownsRow B e size v n xs)(hb:∀g,v.ownBlock=some g->w'.heap[g]? = w.heap[g]?):w'.ownsRow B e size v n xs:=by
 obtain⟨h1,h2⟩:=h;refine⟨h1,?_⟩
 rcases h2 with h2|⟨g,cap,cur,hv,hg,hh,h3⟩
 ·exact .inl h2
 ·subst hv;exact .inr ⟨g,cap,cur,rfl,hg,(hb g rfl).trans hh,h3⟩
theorem Qu{size:Nat}(h:w.ownsRow B e size v n xs):∃ao m c,v= .slice ao m c:=by
 rcases h.2 with ⟨rfl,_⟩|⟨g,cap,cur,rfl,_⟩
 ·exact⟨_,_,_,rfl⟩
 ·exact⟨_,_,_,rfl⟩
structure Give(k B0 M:Nat)(I:(Nat->Prop)->List (Nat×Nat)->World->Prop):Prop where
 give:∀X acc (h q:Nat) w,I X acc w->(∀x,X x->x<w.heap.size)->acc.length<M ->
  Calls prog k #[.agg #[.int .i64 h,.int .u64 q],Pq B0] w fun e w'=>e= .returned (.tuple #[])∧I X (acc++[(h,q)]) w'∧Below B0 w w' ∧ ∀x,X x->w'.heap[x]? = w.heap[x]?
 stay:∀X X' acc w w',I X acc w->(∀b,b<w.heap.size -> ¬X b->w'.heap[b]? = w.heap[b]?)->(∀x,X' x->X x∨w.heap.size<=x)->I X' acc w'
 lt:∀X acc w,I X acc w->B0<w.heap.size
structure IA(B0:Nat)(X:Nat->Prop)(acc:List (Nat×Nat))(w:World):Prop where
 ex:∃v,w.heap[B0]? = some (.cells #[v] 187 (0,0))∧YI w (B0+1) v (zl acc) ∧ ∀g,v.ownBlock=some g -> ¬X g
 nx:¬X B0
theorem Qm8(B0:Nat)(X X':Nat->Prop)(acc:List (Nat×Nat))(w w':World)(h:IA B0 X acc w)(hb:∀b,b<w.heap.size -> ¬X b->w'.heap[b]? = w.heap[b]?)(hx:∀x,X' x->X x∨w.heap.size<=x):IA B0 X' acc w':=by
 obtain⟨⟨v,h1,h2,h3⟩,h4⟩:=h;have xA:B0<w.heap.size:=(Array.getElem?_eq_some_iff.1 h1).1
 refine⟨⟨v,(hb B0 xA h4).trans h1,Qat h2 (fun g hg=>hb g (h2.lt g hg).2 (h3 g hg)),fun g hg hxg=> ?_⟩,fun hx0=> ?_⟩
 ·rcases hx g hxg with h|h
  ·exact h3 g hg h
  ·have:=(h2.lt g hg).2;omega
 ·rcases hx B0 hx0 with h|h
  ·exact h4 h
  ·omega
theorem Qqu(B0:Nat)(X:Nat->Prop)(acc:List (Nat×Nat))(w:World)(h:IA B0 X acc w):B0<w.heap.size:=by
 obtain⟨⟨v,h1,h2,h3⟩,h4⟩:=h;exact(Array.getElem?_eq_some_iff.1 h1).1
theorem QkH{B0 h q:Nat}{X:Nat->Prop}{acc:List (Nat×Nat)}{v':Value}{o1 o2:Obj}(h1:w.heap[B0]? = some (.cells #[v] 187 (0,0)))(h2:YI w (B0+1) v (zl acc))(h3:∀g,v.ownBlock=some g -> ¬X g)(h4:¬X B0)(hX:∀x,X x->x<w.heap.size)
  (hown:YI w1 (B0+1) v' (zl acc++[((h:Int),q)])) (hg:((w.alloc o1).alloc o2).grownBy w1 v.ownBlock) (hf:v'.ownBlock=v.ownBlock ∨ ∀g,v'.ownBlock=some g->w.heap.size+1+1<=g) :
  IA B0 X (acc++[(h,q)]) (w1.setCell ⟨B0,0,none⟩ v')∧Below B0 w (w1.setCell ⟨B0,0,none⟩ v') ∧ ∀x,X x->(w1.setCell ⟨B0,0,none⟩ v').heap[x]? = w.heap[x]? := by
 have xD:B0<w.heap.size:=(Array.getElem?_eq_some_iff.1 h1).1
 have xC:∀b,b<w.heap.size->some b≠v.ownBlock->w1.heap[b]? = w.heap[b]? := fun b hb hne=>by
  rw[hg.block b (by simp;omega) hne,Yg _ (by simp;omega),Yg _ hb]
 have xB:some B0≠v.ownBlock:=fun e=>by have:=(h2.lt B0 e.symm).1;omega
 have c1:w1.heap[B0]? = some (.cells #[v] 187 (0,0)):=(xC B0 xD xB).trans h1;have xA:∀b,b≠B0->(w1.setCell ⟨B0,0,none⟩ v').heap[b]? = w1.heap[b]? := fun b hb=>Below.heap_setCell _ _ _ _ hb
 refine⟨⟨⟨v',one_setCell c1,?_,?_⟩,h4⟩,?_,?_⟩
 ·rw[QcI,Qqh];exact Qat hown (fun g hgg=>xA g (by have:=(hown.lt g hgg).1;omega))
 ·intro g hgg hxg
  rcases hf with hf|hf
  ·exact h3 g (hf ▸ hgg) hxg
  ·have:=hf g hgg;have:=hX g hxg;simp at *;omega
 ·have b1:Below B0 w w1:=by
   have:=((Lb B0 w).alloc (by omega) o1).alloc (by simp;omega) o2
   exact this.grown hg (by simp;omega) (fun j hj=>by have:=(h2.lt j hj).1;omega)
  exact b1.setCell (La _) _
 ·intro x hx;have hne:x≠B0:=fun e=>h4 (e ▸ hx)
  rw[xA x hne];exact xC x (hX x hx) (fun e=>h3 x e.symm hx)
theorem Qgs(B0:Nat):Give 277 B0 1000000 (IA B0):=by
 refine⟨fun X acc h q w hI hX hl=> ?_,Qm8 B0,Qqu B0⟩
 obtain⟨⟨v,h1,h2,h3⟩,h4⟩:=hI;have xB:B0<w.heap.size:=(Array.getElem?_eq_some_iff.1 h1).1
 have cV:=cell_of_one h1;have HH:Hid (w.heap[B0]? = some (.cells #[v] 187 (0,0))∧YI w (B0+1) v (zl acc)∧(∀g,v.ownBlock=some g -> ¬X g) ∧ ¬X B0∧(∀x,X x->x<w.heap.size)∧acc.length<1000000):=⟨h1,h2,h3,h4,hX,hl⟩;have xG:¬B0=w.heap.size:=by omega
 have xF:B0+1<=w.heap.size:=xB;have xC:∀o:Obj,(w.alloc o).cell? ⟨B0,0,none⟩=some v:=fun o=>(LE (Yg o xB)).trans cV
 clear h1 h3 h4 hX hl xB cV;have xD:B0+1<=w.heap.size+1+1:=by omega
 have xA:=fun(o1 o2:Obj)=>(h2.alloc o1).alloc o2
 clear h2
 go_enter func277,ntmps277
 go_wp2_with (at_builtin;refine Qbl _ rfl _ _ rfl (B0+1) v (zl acc) rfl (xA _ _) (.slice (some ⟨w.heap.size+1,0,none⟩) 1 1) [((h:Int),q)] rfl ?c1 ?c2 ?c3 ?_)
 case c1=>have:=Qi7 (w.alloc (.cells #[.int .i64 h,.int .u64 q] 249)) h q 249;rw[Ng] at this;exact this
 case c2=>have:=HH.out.2.2.2.2.2;simp[Ye];omega
 case c3=>simp;omega
 intro v' w1 r1 r2 r3;obtain⟨ao,n1,xE,rfl⟩:=Qu r1;have R:=QkH HH.out.1 HH.out.2.1 HH.out.2.2.1 HH.out.2.2.2.1 HH.out.2.2.2.2.1 r1 r2 r3;have c1:w1.heap[B0]? = some (.cells #[v] 187 (0,0)):=by
  rw[r2.block B0 (by simp;omega) (fun e=>by have:=(HH.out.2.1.lt B0 e.symm).1;omega),Yg _ (by simp;omega),Yg _ (by omega)];exact HH.out.1
 have cW:=cell_of_one c1;have fW:=free_of_one c1;clear r1 r2 r3 c1 xC;go_wp2
 go_end0
 exact⟨rfl,R⟩
structure IC(B0:Nat)(X:Nat->Prop)(acc:List (Nat×Nat))(w:World):Prop where
 at0:w.heap[B0]? = some (.cells #[.int .u64 acc.length] 48 (0,0))
 nx:¬X B0
theorem Qgr(B0:Nat):Give 389 B0 4611686018427387904 (IC B0):=by
 refine⟨fun X acc h q w hI hX hl=> ?_,fun X X' acc w w' hI hb hx=> ?_,fun X acc w hI=>(Array.getElem?_eq_some_iff.1 hI.at0).1⟩
 ·obtain⟨h1,h4⟩:=hI;have xA:B0<w.heap.size:=(Array.getElem?_eq_some_iff.1 h1).1
  have cV:=cell_of_one h1;have fV:=free_of_one h1;have xF:∀o:Obj,(w.alloc o).cell? ⟨B0,0,none⟩=some (.int .u64 acc.length):=fun o=>(LE (Yg o xA)).trans cV
  have xG:∀o:Obj,(w.alloc o).frozen? ⟨B0,0,none⟩=false:=fun o=>(NU (Yg o xA)).trans fV
  have HH:Hid (w.heap[B0]? = some (.cells #[.int .u64 acc.length] 48 (0,0)) ∧ ¬X B0∧(∀x,X x->x<w.heap.size)∧B0<w.heap.size):=⟨h1,h4,hX,xA⟩;have e1:IntKind.u64.wrap ((acc.length:Int)+1)=((acc.length+1:Nat):Int):=by rw[IntKind.wrap_u64];omega
  have xC:¬B0=w.heap.size:=by omega
  clear h1 h4 hX xA cV fV hl
  go_enter func389,ntmps389;go_wp2
  go_end0
  obtain⟨h1,h4,hX,xA⟩:=HH.out;refine⟨rfl,?_⟩
  have e2:((acc.length:Int)+1)=((acc.length+1:Nat):Int):=by omega
  have xD:∀o:Obj,(w.alloc o).heap[B0]? = some (.cells #[.int .u64 acc.length] 48 (0,0)):=fun o=>(Yg o xA).trans h1
  have xE:∀o:Obj,((w.alloc o).setCell ⟨B0,0,none⟩ (.int .u64 ((acc.length:Int)+1))).heap[B0]? = some (.cells #[.int .u64 ((acc.length+1:Nat):Int)] 48 (0,0)):=fun o=>by
   rw[e2];exact one_setCell (xD o)
  have xB:∀(o:Obj) b,b<w.heap.size->b≠B0->((w.alloc o).setCell ⟨B0,0,none⟩ (.int .u64 ((acc.length:Int)+1))).heap[b]? = w.heap[b]? := fun o b hb xC=>by
   rw[Below.heap_setCell _ _ _ _ xC];exact Yg o hb
  refine⟨⟨?_,h4⟩,?_,fun x hx=>xB _ x (hX x hx) (fun e=>h4 (e ▸ hx))⟩
  ·rw[Lc];exact xE _
  ·exact((Lb B0 w).alloc (by omega) _).setCell (La B0) _
 ·have xA:=(Array.getElem?_eq_some_iff.1 hI.at0).1
  refine⟨(hb B0 xA hI.nx).trans hI.at0,fun hx0=> ?_⟩
  rcases hx B0 hx0 with h|h
  ·exact hI.nx h
  ·omega
abbrev gv(k B0:Nat):Value := .func (.func k) #[] #[Pq B0]
theorem UH{k B0 M:Nat}(hk:k=277∨k=230∨k=389){I:(Nat->Prop)->List (Nat×Nat)->World->Prop}(G:Give k B0 M I)(c:Nat)(X:Nat->Prop)(acc:List (Nat×Nat))(h lo:Nat)(w:World)
  (hI:I X acc w) (hX:∀x,X x->x<w.heap.size) (hl:acc.length<M) (x0:X c) (x1:X (c+1)) (hc:B0<c)
  (c0:w.heap[c]? = some (.cells #[.int .u64 lo] 48 (0,0))) (c1:w.heap[c+1]? = some (.cells #[gv k B0] 294 (0,0))) (hh:h<41) (hlo:lo<=2^40) :
  Calls prog 358 #[.int .i64 h,.pointer (some ⟨c+1,0,none⟩),Pq c] w fun e w'=>e= .returned (.tuple #[])∧I X (acc++[(h,lo/pw h)]) w'∧Below B0 w w' ∧
   w'.heap[c]? = some (.cells #[.int .u64 ((lo+pw h:Nat):Int)] 48 (0,0)) ∧ ∀x,X x->x≠c->w'.heap[x]? = w.heap[x]? := by
 have d0:=cell_of_one c0;have d1:=cell_of_one c1;obtain⟨q,hq⟩:=Ze (lo/pw h);have eq:(lo:Int)/2^h=(q:Int):=by rw[<-hq];simp[pw]
 have HG:Calls prog k #[.agg #[.int .i64 h,.int .u64 q],Pq B0] w.drew fun e w'=>e= .returned (.tuple #[])∧I X (acc++[(h,q)]) w'∧Below B0 w w' ∧ ∀x,X x->w'.heap[x]? = w.heap[x]? :=
  (G.give X acc h q w.drew (G.stay X X acc w w.drew hI (fun _ _ _=>rfl) (fun x hx=> .inl hx)) hX hl).mono fun e w' r=>⟨r.1,r.2.1,⟨r.2.2.1.os,r.2.2.1.tape,r.2.2.1.output,r.2.2.1.size,r.2.2.1.block⟩,r.2.2.2⟩
 have HL:=fun w'=>Qcb h w' (by omega)
 have hp:pw h<=pw 40:=OE (by omega)
 have xG:pw 40=2^40:=rfl;rw[hq];obtain⟨p,xC⟩:=Ze (pw h);rw[xC] at hp ⊢;simp only[xC] at HL;have es:IntKind.u64.wrap ((lo:Int)+(p:Int))=((lo+p:Nat):Int):=by rw[IntKind.wrap_u64];omega
 have xH:(0:Int)<=(h:Int):=Lh _;have xI:(h:Int)<64:=by omega
 have xJ:¬(h:Int)<0:=by omega
 have HH:Hid (I X acc w∧(∀x,X x->x<w.heap.size)∧X c∧X (c+1)∧B0<c∧w.heap[c]? = some (.cells #[.int .u64 lo] 48 (0,0))):=⟨hI,hX,x0,x1,hc,c0⟩;clear hI hX hl x0 x1 hc c0 c1 hh hlo hq hp xG xC
 rcases hk with rfl|rfl|rfl
 all_goals
  go_enter func358,ntmps358;go_wp2
  go_region_with (with_reducible refine HG.mono ?_;rintro e w1 ⟨rfl,xE,xF,xD⟩)
  all_goals
   have xB:w1.heap[c]? = some (.cells #[.int .u64 lo] 48 (0,0)):=(xD c HH.out.2.2.1).trans HH.out.2.2.2.2.2;have k0:=cell_of_one xB;have k1:=free_of_one xB;have R:∀W:World,W.heap=(w1.setCell ⟨c,0,none⟩ (.int .u64 ((lo+p:Nat):Int))).heap->Below B0 w W->I X (acc++[(h,q)]) W∧Below B0 w W ∧
     W.heap[c]? = some (.cells #[.int .u64 ((lo+p:Nat):Int)] 48 (0,0)) ∧ ∀x,X x->x≠c->W.heap[x]? = w.heap[x]? := fun W hW hbW=>by
    refine⟨G.stay X X _ w1 W xE (fun b hb hnx=> ?_) (fun x hx=> .inl hx),hbW,?_,fun x hx hne=> ?_⟩
    ·rw[hW];exact Below.heap_setCell _ _ _ _ (fun e=>hnx (e ▸ HH.out.2.2.1))
    ·rw[hW];exact one_setCell xB
    ·rw[hW];exact(Below.heap_setCell _ _ _ _ hne).trans (xD x hx)
   have xA:Below B0 w (w1.setCell ⟨c,0,none⟩ (.int .u64 ((lo+p:Nat):Int))):=xF.setCell (Nat.le_of_lt HH.out.2.2.2.2.1) _;clear xB xE xF xD d0 d1 HG;go_wp2
   go_region_with (go_at_call 359;with_reducible refine(HL _).mono ?_;rintro e w2 ⟨rfl,rfl⟩)
   all_goals
    go_wp2
    go_end0
    exact⟨rfl,R _ rfl ⟨xA.os,xA.tape,xA.output,xA.size,xA.block⟩⟩
theorem Qbh(h:Nat)(w:World)(hh:h<64):Re 359 #[.int .i64 h] w (.int .u64 (pw h:Nat)):=(Qcb h w hh).mono fun _ _ r=>⟨r.1,r.2.symm⟩
theorem bit1(m:Nat)(hm:m<18446744073709551616):(bits BinOp.and IntKind.u64 (m:Int) 1 == 1)=decide (m%2=1):=by
 have:=bits_and_u64_nat m 1 hm (by decide)
 rw[show(1:Int)=((1:Nat):Int) from rfl,this,I2]
 by_cases h:m%2=1
 ·simp[h]
 ·have:m%2=0:=by omega
  simp[this]
theorem Qae(w:World)(o:Obj):(w.alloc o).heap[w.heap.size]? = some o:=by
 show(w.heap.push o)[w.heap.size]? = _
 simp
structure Ev(k B0 c:Nat)(I:(Nat->Prop)->List (Nat×Nat)->World->Prop)(X:Nat->Prop)(w0:World)(acc:List (Nat×Nat))(lo:Nat)(wr:World):Prop where
 inv:I (fun x=>X x∨x=c∨x=c+1) acc wr
 lt:∀x,(X x∨x=c∨x=c+1)->x<wr.heap.size
 c0:wr.heap[c]? = some (.cells #[.int .u64 lo] 48 (0,0))
 c1:wr.heap[c+1]? = some (.cells #[gv k B0] 294 (0,0))
 below:Below B0 w0 wr
 keep:∀x,X x->x≠c∧x≠c+1∧wr.heap[x]? = w0.heap[x]?
 bc:B0<c
variable{B0 M c h hi k lo:Nat}{I:(Nat->Prop)->List (Nat×Nat)->World->Prop}{X:Nat->Prop}{w0:World}{acc:List (Nat×Nat)}
theorem Ev.drewN{wr:World}(G:Give k B0 M I)(h:Ev k B0 c I X w0 acc lo wr)(n:Nat):Ev k B0 c I X w0 acc lo (wr.drewN n) :=
 ⟨G.stay _ _ _ wr _ h.inv (fun _ _ _=>rfl) (fun _ hx=> .inl hx),h.lt,h.c0,h.c1,Qi h.below n,h.keep,h.bc⟩
theorem Ev.take(hk:k=277∨k=230∨k=389){wr:World}(G:Give k B0 M I)(h:Ev k B0 c I X w0 acc lo wr)(hl:acc.length<M)(j:Nat)(hj:j<41)(hlo:lo<=2^40) :
  Calls prog 358 #[.int .i64 j,.pointer (some ⟨c+1,0,none⟩),Pq c] wr fun e w'=>e= .returned (.tuple #[])∧Ev k B0 c I X w0 (acc++[(j,lo/pw j)]) (lo+pw j) w':=by
 refine(UH hk G c _ acc j lo wr h.inv h.lt hl (.inr (.inl rfl)) (.inr (.inr rfl)) h.bc h.c0 h.c1 hj hlo).mono ?_
 rintro e w' ⟨rfl,r1,r2,r3,r4⟩;refine⟨rfl,r1,fun x hx=>Lz (h.lt x hx) r2.size,r3,(r4 (c+1) (.inr (.inr rfl)) (by omega)).trans h.c1,h.below.trans r2,fun x hx=> ?_,h.bc⟩
 obtain⟨a1,a2,a3⟩:=h.keep x hx;exact⟨a1,a2,(r4 x (.inl hx) a1).trans a3⟩
theorem Qkv(G:Give k B0 M I)(lo:Nat)(hI:I X acc w)(hX:∀x,X x->x<w.heap.size) :
  Ev k B0 w.heap.size I X w acc lo ((w.alloc (.cells #[.int .u64 lo] 48)).alloc (.cells #[gv k B0] 294)):=by
 have xA:=G.lt X acc w hI;have hh:∀b,b<w.heap.size->((w.alloc (.cells #[.int .u64 lo] 48)).alloc (.cells #[gv k B0] 294)).heap[b]? = w.heap[b]? := fun b hb=>by
  rw[Yg _ (by simp;omega),Yg _ hb]
 refine⟨G.stay X _ acc w _ hI (fun b hb _=>hh b hb) (fun x hx=> ?_),fun x hx=> ?_,?_,?_,?_,fun x hx=> ?_,xA⟩
 ·rcases hx with hx|hx|hx
  ·exact .inl hx
  ·exact .inr (by omega)
  ·exact .inr (by omega)
 ·have:∀x,X x->x<w.heap.size:=hX
  rcases hx with hx|hx|hx
  ·have:=hX x hx;simp;omega
  ·simp;omega
  ·simp;omega
 ·rw[Yg _ (by simp)];exact Qae _ _
 ·have:=Qae (w.alloc (.cells #[.int .u64 lo] 48)) (.cells #[gv k B0] 294);rw[Ng] at this;exact this
 ·exact((Lb B0 w).alloc (by omega) _).alloc (by simp;omega) _
 ·have:=hX x hx;exact⟨by omega,by omega,hh x this⟩
theorem Qqe{f:Nat}(h1:pw h<=hi-lo)(h2:lo/pw h%2=1):upL (f+1) h lo hi=(h,lo/pw h)::upL f (h+1) (lo+pw h) hi:=by rw[upL,Lf h1,Lf h2]
theorem QoA{f:Nat}(h1:pw h<=hi-lo)(h2:¬lo/pw h%2=1):upL (f+1) h lo hi=upL f (h+1) lo hi:=by rw[upL,Lf h1,Le h2]
theorem Qqc{f:Nat}(h1:¬pw h<=hi-lo):upL (f+1) h lo hi=dnL (h+1) lo hi:=by rw[upL,Le h1]
theorem Qpm(h1:pw h<=hi-lo):dnL (h+1) lo hi=(h,lo/pw h)::dnL h (lo+pw h) hi:=by rw[dnL,Lf h1]
theorem Qqp(h1:¬pw h<=hi-lo):dnL (h+1) lo hi=dnL h lo hi:=by rw[dnL,Le h1]
theorem Qm1{wr:World}(G:Give k B0 M I)(h:Ev k B0 c I X w0 acc lo wr):I X acc wr∧Below B0 w0 wr ∧ ∀x,X x->wr.heap[x]? = w0.heap[x]? :=
 ⟨G.stay _ X acc wr wr h.inv (fun _ _ _=>rfl) (fun _ hx=> .inl (.inl hx)),h.below,fun x hx=>(h.keep x hx).2.2⟩
theorem QbX(hk:k=277∨k=230∨k=389)(G:Give k B0 M I)(X:Nat->Prop)(acc:List (Nat×Nat))(lo hi:Nat)(w:World)
  (hI:I X acc w) (hX:∀x,X x->x<w.heap.size) (hl:acc.length+1000<M) (h1:lo<=hi) (h2:hi<=2^40) :
  Calls prog 276 #[.int .u64 lo,.int .u64 hi,gv k B0] w fun e w'=>e= .returned (.tuple #[])∧I X (acc++cov lo hi) w'∧Below B0 w w' ∧ ∀x,X x->w'.heap[x]? = w.heap[x]? := by
 have HS:Hid (Ev k B0 w.heap.size I X w acc lo ((w.alloc (.cells #[.int .u64 lo] 48)).alloc (.cells #[gv k B0] 294))∧lo<=hi∧hi<=2^40∧acc.length+1000<M):=⟨Qkv G lo hI hX,h1,h2,hl⟩;clear hI hX hl h1 h2
 go_enter func276,ntmps276;go_wp2
 go_loopg [7] 42 (fun g h wr=> ∃(j lo':Nat) (acc':List (Nat×Nat)),j<=41∧g=42-j∧h= .int .i64 j∧Ev k B0 w.heap.size I X w acc' lo' wr∧acc'++upL (42-j) j lo' hi=acc++cov lo hi∧lo'<=hi∧acc'.length<=acc.length+j)
 case atStart=>go_light;exact⟨0,lo,acc,by decide,rfl,rfl,HS.out.1,rfl,HS.out.2.1,La _⟩
 case round=>
  obtain⟨j,lo',acc',hj,rfl,rfl,HE,xB,xI,xG⟩:=hrel;obtain⟨_,xP,xF,hl⟩:=HS.out;have xU:(0:Int)<=(j:Int):=Lh _;have xV:(j:Int)<64:=by omega
  have xW:¬(j:Int)<0:=by omega
  have k0:=cell_of_one HE.c0;have HL:=fun w'=>Qbh j w' (by omega)
  obtain⟨p,hp⟩:=Ze (pw j);simp only[hp] at HL;obtain⟨d,hd⟩:=Ze (hi-lo');have ed:IntKind.u64.wrap ((hi:Int)-(lo':Int))=(d:Int):=by rw[IntKind.wrap_u64];omega
  by_cases hfit:p<=d
  ·have xK:(p:Int)<=(d:Int):=by omega
   have xH:j<=40:=pw40 (by rw[hp];omega)
   obtain⟨q,hq⟩:=Ze (lo'/pw j);have eq:(lo':Int)/2^j=(q:Int):=by rw[<-hq];simp[pw]
   have xJ:=HE.drewN G
   by_cases hodd:q%2=1
   ·have xN:(bits BinOp.and IntKind.u64 (q:Int) 1 == 1)=true:=by rw[bit1 q (by rw[<-hq];exact Im (N5 _ _) (by omega))];exact LW hodd
    have HT:=fun n=>(xJ n).take hk G (by omega) j (by omega) (by omega)
    have hu:upL (42-j) j lo' hi=(j,lo'/pw j)::upL (42-(j+1)) (j+1) (lo'+pw j) hi:=by
     rw[show 42-j=(42-(j+1))+1 by omega];exact Qqe (by omega) (by rw[hq];exact hodd)
    have HX:Hid (acc'++[(j,lo'/pw j)]++upL (42-(j+1)) (j+1) (lo'+pw j) hi=acc++cov lo hi∧lo'+pw j<=hi∧(acc'++[(j,lo'/pw j)]).length<=acc.length+(j+1)∧j+1<=41):=by
     refine⟨?_,by omega,by simp;omega,by omega⟩
     rw[Lw,<-xB,hu];rfl
    have HN:Hid (hi-lo'=d∧pw j=p):=⟨hd,hp⟩;clear xB xI xG hd hp hq hodd hu xP xF hl HE xJ hfit hj xH;go_wp2
    go_quiet ((go_at_call 359;refine Calls.quiet_of_same (HL _)))
    go_wp2_with (go_at_call 358;with_reducible refine(HT _).mono ?_;rintro e w1 ⟨rfl,xM⟩)
    go_roundg (42-(j+1))
    case rel=>go_light;obtain⟨x1,x2,x3,x4⟩:=HX.out;exact⟨j+1,_,_,x4,rfl,by go_num,xM,x1,x2,x3⟩
    case measure=>go_light;have:=HX.out.2.2.2;omega
   ·have xN:(bits BinOp.and IntKind.u64 (q:Int) 1 == 1)=false:=by rw[bit1 q (by rw[<-hq];exact Im (N5 _ _) (by omega))];exact LA hodd
    have hu:upL (42-j) j lo' hi=upL (42-(j+1)) (j+1) lo' hi:=by
     rw[show 42-j=(42-(j+1))+1 by omega];exact QoA (by omega) (by rw[hq];exact hodd)
    have HX:Hid (acc'++upL (42-(j+1)) (j+1) lo' hi=acc++cov lo hi∧lo'<=hi∧acc'.length<=acc.length+(j+1)∧j+1<=41 ∧ ∀n,Ev k B0 w.heap.size I X w acc' lo' (wr.drewN n)):=by
     refine⟨?_,xI,by omega,by omega,xJ⟩
     rw[<-xB,hu]
    clear xB xI xG hd hp hq hodd hu xP xF hl HE xJ hfit hj xH;go_wp2
    go_quiet ((go_at_call 359;refine Calls.quiet_of_same (HL _)))
    go_wp2
    go_roundg (42-(j+1))
    case rel=>go_light;obtain⟨x1,x2,x3,x4,x5⟩:=HX.out;exact⟨j+1,_,_,x4,rfl,by go_num,x5 _,x1,x2,x3⟩
    case measure=>go_light;have:=HX.out.2.2.2.1;omega
  ·have xK:¬(p:Int)<=(d:Int):=by omega
   have hu:upL (42-j) j lo' hi=dnL (j+1) lo' hi:=by
    rw[show 42-j=(41-j)+1 by omega];exact Qqc (by omega)
   rw[hu] at xB;have HX:Hid (acc'++dnL (j+1) lo' hi=acc++cov lo hi∧lo'<=hi∧acc'.length<=acc.length+41∧j<=41∧hi<=2^40∧acc.length+1000<M ∧ ∀n,Ev k B0 w.heap.size I X w acc' lo' (wr.drewN n)):=⟨xB,xI,by omega,hj,xF,hl,HE.drewN G⟩
   clear xB xI xG hd hp hu xP xF hl HE hj;go_wp2
   go_quiet ((go_at_call 359;refine Calls.quiet_of_same (HL _)))
   go_wp2;clear HL k0 ed xK hfit
   go_loopg [7] 42 (fun g h wr2=> ∃(m lo2:Nat) (acc2:List (Nat×Nat)),m<=42∧m<=g∧h= .int .i64 ((m:Int)-1)∧Ev k B0 w.heap.size I X w acc2 lo2 wr2∧acc2++dnL m lo2 hi=acc++cov lo hi∧lo2<=hi∧acc2.length+m<=acc.length+100)
   case atStart=>go_light;obtain⟨x1,x2,x3,x4,x5,x6,x7⟩:=HX.out;exact⟨j+1,lo',acc',by omega,by omega,by congr 1;omega,x7 _,x1,x2,by omega⟩
   case round=>
    obtain⟨m,lo2,acc2,hm,xX,rfl,xE,xA,xD,xC⟩:=hrel;obtain⟨_,_,_,_,xF,hl,_⟩:=HX.out
    by_cases hm0:m=0
    ·subst hm0;have ht:¬(0:Int)<=((0:Nat):Int)-1:=by omega
     have HF:Hid (I X (acc++cov lo hi) wr∧Below B0 w wr ∧ ∀x,X x->wr.heap[x]? = w.heap[x]?):=by
      have e:acc2=acc++cov lo hi:=by rw[<-xA];simp[dnL]
      rw[<-e];exact Qm1 G xE
     clear xA xE xD xC hm;go_wp2
     go_end0
     exact⟨rfl,HF.out⟩
    ·obtain⟨i,rfl⟩:∃i,m=i+1:=⟨m-1,by omega⟩
     have ei:(((i+1:Nat):Int)-1)=(i:Int):=by omega
     rw[ei];have xR:(0:Int)<=(i:Int):=Lh _;have xS:(i:Int)<64:=by omega
     have xT:¬(i:Int)<0:=by omega
     have k0:=cell_of_one xE.c0;have HL:=fun w'=>Qbh i w' (by omega)
     obtain⟨p2,xL⟩:=Ze (pw i);simp only[xL] at HL;obtain⟨d2,xQ⟩:=Ze (hi-lo2);have ed:IntKind.u64.wrap ((hi:Int)-(lo2:Int))=(d2:Int):=by rw[IntKind.wrap_u64];omega
     by_cases hfit:p2<=d2
     ·have xK:(p2:Int)<=(d2:Int):=by omega
      have xO:i<=40:=pw40 (by rw[xL];omega)
      have HT:=fun n=>(xE.drewN G n).take hk G (by omega) i (by omega) (by omega)
      have hu:=Qpm (h:=i) (lo:=lo2) (hi:=hi) (by omega)
      have HY:Hid (acc2++[(i,lo2/pw i)]++dnL i (lo2+pw i) hi=acc++cov lo hi∧lo2+pw i<=hi∧(acc2++[(i,lo2/pw i)]).length+i<=acc.length+100∧i<=42):=by
       refine⟨?_,by omega,by simp;omega,by omega⟩
       rw[Lw,<-xA,hu];rfl
      clear xA xD xC xQ xL hu xF hl xE hfit hm xO hm0;go_wp2
      go_quiet ((go_at_call 359;refine Calls.quiet_of_same (HL _)))
      go_wp2_with (go_at_call 358;with_reducible refine(HT _).mono ?_;rintro e w1 ⟨rfl,xM⟩)
      go_roundg i
      case rel=>go_light;obtain⟨x1,x2,x3,x4⟩:=HY.out;exact⟨i,_,_,x4,La _,by go_num,xM,x1,x2,x3⟩
      case measure=>go_light;omega
     ·have xK:¬(p2:Int)<=(d2:Int):=by omega
      have hu:=Qqp (h:=i) (lo:=lo2) (hi:=hi) (by omega)
      rw[hu] at xA;have HY:Hid (acc2++dnL i lo2 hi=acc++cov lo hi∧lo2<=hi∧acc2.length+i<=acc.length+100∧i<=42 ∧ ∀n,Ev k B0 w.heap.size I X w acc2 lo2 (wr.drewN n)):=⟨xA,xD,by omega,by omega,xE.drewN G⟩
      clear xA xD xC xQ xL hu xF hl xE hm hm0;go_wp2
      go_quiet ((go_at_call 359;refine Calls.quiet_of_same (HL _)))
      go_wp2
      go_roundg i
      case rel=>go_light;obtain⟨x1,x2,x3,x4,x5⟩:=HY.out;exact⟨i,_,_,x4,La _,by go_num,x5 _,x1,x2,x3⟩
      case measure=>go_light;omega
def Js(lo hi n:Nat):Nat:=if 2^40<n then 30 else if n<hi then 31 else if hi<lo then 41 else 0
def covR(lo hi n:Nat):List (Nat×Nat):=if Js lo hi n=0 then cov lo hi else []
theorem Qpu(w:World):IA w.heap.size (fun _=>False) [] (w.alloc (.cells #[.slice none 0 0] 187)) :=
 ⟨⟨.slice none 0 0,Qae _ _,Np _ _ _ _,fun _ _ h=>h⟩,fun h=>h⟩
theorem Qi5(lo hi n e:Nat)(w:World)(he:Js lo hi n=e)(h0:e≠0) :
  Calls prog 181 #[.int .u64 lo,.int .u64 hi,.int .u64 n] w fun x w'=> ∃v,x= .returned (.tuple #[v,.int .i64 e])∧YI w' w.heap.size v []∧Bl w w':=by
 unfold Js at he
 by_cases h1:2^40<n
 ·rw[Lf h1] at he;subst he;have ht:decide ((1099511627776:Int)<(n:Int))=true:=LW (by omega)
  clear h0 h1
  go_enter func181,ntmps181;go_wp2
  go_ret2
  exact⟨_,rfl,Np _ _ _ _,Lb _ _⟩
 ·rw[Le h1] at he;have ht:decide ((1099511627776:Int)<(n:Int))=false:=LA (by omega)
  by_cases h2:n<hi
  ·rw[Lf h2] at he;subst he;have xA:(n:Int)<(hi:Int):=by omega
   clear h0 h1
   go_enter func181,ntmps181;go_wp2
   go_ret2
   exact⟨_,rfl,Np _ _ _ _,Lb _ _⟩
  ·rw[Le h2] at he;have xA:¬(n:Int)<(hi:Int):=by omega
   by_cases h3:hi<lo
   ·rw[Lf h3] at he;subst he;have xB:(hi:Int)<(lo:Int):=by omega
    clear h0 h1
    go_enter func181,ntmps181;go_wp2
    go_ret2
    exact⟨_,rfl,Np _ _ _ _,Lb _ _⟩
   ·rw[Le h3] at he;exact absurd he.symm h0
theorem Qfx(lo hi n:Nat)(w:World)(hn:n<=2^40)(hh:hi<=n)(hl:lo<=hi) :
  Calls prog 181 #[.int .u64 lo,.int .u64 hi,.int .u64 n] w fun x w'=> ∃v,x= .returned (.tuple #[v,.int .i64 0])∧YI w' w.heap.size v (zl (cov lo hi))∧Bl w w':=by
 have ht:decide ((1099511627776:Int)<(n:Int))=false:=LA (by omega)
 have xC:¬(n:Int)<(hi:Int):=by omega
 have xD:¬(hi:Int)<(lo:Int):=by omega
 have xA:¬n<hi:=by omega
 have xB:¬hi<lo:=by omega
 have HE:=QbX (.inl rfl) (Qgs w.heap.size) (fun _=>False) [] lo hi (w.alloc (.cells #[.slice none 0 0] 187)) (Qpu w) (fun _ h=>h.elim) (by decide) hl (by omega)
 clear hn hh hl
 go_enter func181,ntmps181
 go_upto_region 9 with ((go_at_call 276;with_reducible refine HE.mono ?_;rintro e w1 ⟨rfl,hI,hb,_⟩))
 obtain⟨⟨v,h1,h2,_⟩,_⟩:=hI;have c0:=cell_of_one h1;obtain⟨ao,m,c,rfl⟩:=Qu h2;have HF:Hid (YI w1 w.heap.size (.slice ao m c) (zl (cov lo hi))∧Bl w w1):=⟨by
  have:=h2.mono (base':=w.heap.size) (by omega)
  simpa using this,((Lb _ w).alloc (La _) _).trans hb⟩
 clear h1 h2 hb HE;go_wp2
 go_ret2
 exact⟨_,rfl,HF.out.1,HF.out.2⟩
theorem Qa0(lo hi n:Nat)(w:World) :
  Calls prog 181 #[.int .u64 lo,.int .u64 hi,.int .u64 n] w fun x w'=> ∃v,x= .returned (.tuple #[v,.int .i64 (Js lo hi n:Nat)])∧YI w' w.heap.size v (zl (covR lo hi n))∧Bl w w':=by
 by_cases h:Js lo hi n=0
 ·have h':=h;unfold Js at h'
  split at h'
  ·cases h'
  ·split at h'
   ·cases h'
   ·split at h'
    ·cases h'
    ·rw[h,covR,Lf h];exact Qfx lo hi n w (by omega) (by omega) (by omega)
 ·rw[covR,Le h];exact Qi5 lo hi n _ w rfl h
theorem Y8(n:Nat)(w:World) :
  Calls prog 105 #[.int .u64 n] w fun x w'=> ∃v,x= .returned (.tuple #[v,.int .i64 (Js 0 n n:Nat)])∧YI w' w.heap.size v (zl (covR 0 n n))∧Bl w w':=by
 have HR:Calls prog 181 #[.int .u64 0,.int .u64 n,.int .u64 n] w fun x w'=> ∃v,x= .returned (.tuple #[v,.int .i64 (Js 0 n n:Nat)])∧YI w' w.heap.size v (zl (covR 0 n n))∧Bl w w':=Qa0 0 n n w
 generalize Js 0 n n=e at *;generalize covR 0 n n=L at *
 go_enter func105,ntmps105
 go_wp2_with (go_at_call 181;with_reducible refine HR.mono ?_;rintro x w1 ⟨v,rfl,h1,h2⟩)
 go_ret2
 exact⟨_,rfl,h1,h2⟩
end Cv
structure Frs(w:World)(m:Nat)(k:Int)(L:LB):Prop where
 blk:w.heap[m+1]? = some (.cells #[.int .i64 k,.int .u64 L.length,.map (some m)] 172 (0,0))
 mp:Mp w m (ff (clk k) L)
 k1:1<=k
 k2:k<=32
 hn:L.length<=65536
section
variable {w W:World} {m:Nat} {k:Int} {L:LB}
theorem Frs.lt(h:Frs w m k L):m+1<w.heap.size:=(Array.getElem?_eq_some_iff.1 h.blk).1
theorem Frs.c0(h:Frs w m k L):w.cell? ⟨m+1,0,none⟩=some (.int .i64 k):=by rw[cell_of_row w (m+1) 0 _ _ (0,0) h.blk];rfl
theorem Frs.c1(h:Frs w m k L):w.cell? ⟨m+1,1,none⟩=some (.int .u64 L.length):=by rw[cell_of_row w (m+1) 1 _ _ (0,0) h.blk];rfl
theorem Frs.c2(h:Frs w m k L):w.cell? ⟨m+1,2,none⟩=some (.map (some m)):=by rw[cell_of_row w (m+1) 2 _ _ (0,0) h.blk];rfl
theorem Frs.fz(h:Frs w m k L)(j:Nat):w.frozen? ⟨m+1,j,none⟩=false:=frozen_of_row w (m+1) j _ _ h.blk
theorem Frs.same(h:Frs w m k L)(h0:W.heap[m]? = w.heap[m]?)(h1:W.heap[m+1]? = w.heap[m+1]?):Frs W m k L:=⟨h1.trans h.blk,h.mp.same h0,h.k1,h.k2,h.hn⟩
theorem Frs.next{B:Nat}(h:Frs w m k L)(hb:Below B w W)(hB:w.heap.size<=B):Frs W m k L :=
 h.same (hb.block m (by have:=h.lt;omega)) (hb.block (m+1) (by have:=h.lt;omega))
end
variable{b c h len n:Nat}{L ss:LB}
theorem Qpo(c:Nat):(fun _ _=>none)=ff c []:=by
 funext h k
 rw[ff,Le];rintro⟨_,e⟩;have:=LN h.toNat;have:0<(k+1)*2^h.toNat:=Nat.mul_pos (by omega) this
 simp at e;omega
theorem Qm7(w:World)(k:Int)(h1:1<=k)(h2:k<=32) :
  Calls prog 43 #[.int .i64 k] w fun e w'=>e= .returned (.tuple #[.pointer (some ⟨w.heap.size+1,0,none⟩),.int .i64 0])∧Frs w' w.heap.size k []∧Bl w w':=by
 have HC:Hid (∀W,Rf 91 #[.int .i64 k] W (.int .i64 0)):=fun W=>by
  have:=(Yp W k);rw[show chk k=0 by rw[chk,Le (by omega)]] at this
  exact this.mono fun _ _ h=>⟨h.1,h.2.symm⟩
 have xA := @run_makeMap prog;have HK:=Qc (Nx h1 h2);clear h1 h2
 go_enter func43,ntmps43
 go_wp2_with (go_at_call 91;with_reducible refine(HC.out _).mono ?_;rintro e w1 ⟨rfl,rfl⟩)
 go_ret2
 refine⟨rfl,⟨?_,?_,HK.out.1,HK.out.2,by simp⟩,bal (bal (Lb _ _) _) _⟩
 ·have:=LC (w.alloc (.map #[] 0)) (.cells #[.int .i64 k,.int .u64 0,.map (some w.heap.size)] 172)
  simpa using this
 ·rw[<-Qpo];refine(QpC w).same ?_
  exact(MapKept.heap_alloc (w.alloc (.map #[] 0)) _).2 w.heap.size (by simp)
theorem YX(w:World)(m:Nat)(k:Int)(L:LB)(hF:Frs w m k L) :
  Re 132 #[.pointer (some ⟨m+1,0,none⟩)] w (.int .u64 L.length):=by
 have c1:=hF.c1;clear hF
 go_enter func132,ntmps132;go_wp2
 go_ret
 exact⟨rfl,rfl⟩
theorem OB(w:World)(m:Nat)(k:Int)(L:LB)(hF:Frs w m k L) :
  Re 134 #[.pointer (some ⟨m+1,0,none⟩)] w (.int .i64 k):=by
 have c0:=hF.c0;clear hF
 go_enter func134,ntmps134;go_wp2
 go_ret
 exact⟨rfl,rfl⟩
theorem Qbf(w:World)(m:Nat)(k:Int)(L:LB)(hF:Frs w m k L)(h:Int)(b:Nat)(hf:Fitb h b)(s:BA)(ok:Bool)(hs:Hid ((ff (clk k) L h b).getD ByteArray.empty=s∧(ff (clk k) L h b).isSome=ok)) :
  Zr 182 #[.pointer (some ⟨m+1,0,none⟩),.agg #[.int .i64 h,.int .u64 b]] w (.tuple #[.string s,.bool ok]):=by
 have HL:∀W:World,W.heap[m]? = w.heap[m]? -> (Instr.lookup 170 (.map (some m)) (.agg #[.int .i64 h,.int .u64 b]) true).run prog W= .ok (.tuple #[.agg #[.string s],.bool ok]) W:=fun W hW=>by
  have:=(hF.mp.same hW).look hf true;rw[hs.out.1,hs.out.2] at this;exact this
 have HF:Hid (∀W,Bl w W->W.cell? ⟨m+1,2,none⟩=some (.map (some m))∧(Instr.lookup 170 (.map (some m)) (.agg #[.int .i64 h,.int .u64 b]) true).run prog W= .ok (.tuple #[.agg #[.string s],.bool ok]) W):=fun W hb=>
  ⟨(hF.next hb (La _)).c2,HL W (hb.block m (by have:=hF.lt;omega))⟩
 clear hF hs hf HL
 go_enter func182,ntmps182
 go_upto_region 1 with (fail)
 obtain⟨w1,xA⟩:=Ze (w.alloc (.cells #[.int .i64 h,.int .u64 b] 249));have k0:w1.cell? ⟨w.heap.size,0,none⟩=some (.int .i64 h):=by rw[<-xA];simp
 have k1:w1.cell? ⟨w.heap.size,1,none⟩=some (.int .u64 b):=by rw[<-xA];simp
 have xB:Bl w w1:=by rw[<-xA];exact bal (Lb _ _) _
 have hz:w.heap.size<w1.heap.size:=by rw[<-xA];simp
 obtain⟨a1,a2⟩:=HF.out w1.drew xB.drew;obtain⟨a3,a4⟩:=HF.out (w1.drew.alloc (.cells #[.string ⟨#[]⟩] 315)) (bal xB.drew _);obtain⟨a5,a6⟩:=HF.out (w1.alloc (.cells #[.string ⟨#[]⟩] 315)).drew (bal xB _).drew;rw[xA];clear xA
 go_region
 all_goals
  go_wp2
  go_ret2
  exact⟨rfl,(bal xB _).drew⟩
theorem Y5(x:Int)(h0:0<=x)(h1:x<18446744073709551616):IntKind.u64.wrap x=x:=by
 simp[IntKind.wrap,IntKind.signed,IntKind.bits];omega
theorem RdS.take{w:World}{ao:OA}{off:Nat}(h:RdS w ao b off len ss)(hn:n<=len):RdS w ao b off n (ss.take n):=by
 refine⟨by rw[Lx,h.hl];omega,fun h0=>h.ptr (by omega),fun j v hv=> ?_,fun s hs=>h.sz s (Nq hs)⟩
 rw[NK,LT] at hv
 split at hv
 ·exact h.rng j v hv
 ·cases hv
theorem small(hc:c<=32) : ∀s∈pks c L h,s.size<=140737488351232:=fun s hs=>by rw[Qco hc L h s hs];omega
theorem Qpd{k:Int}(h1:1<=k)(h2:k<=32):chk k=0:=by rw[chk,Le (by omega)]
structure Rt(w:World)(g n:Nat)(d:BA):Prop where
 c0:w.cell? ⟨g,0,none⟩=some (.int .u64 n)
 c1:w.cell? ⟨g,1,none⟩=some (.string d)
 f0:w.frozen? ⟨g,0,none⟩=false
 f1:w.frozen? ⟨g,1,none⟩=false
theorem Rt.below{w w':World}{B g:Nat}{d:BA}(t:Rt w g n d)(hb:Below B w w')(hg:g<B):Rt w' g n d :=
 ⟨(hb.cell (p:=⟨g,0,none⟩) hg).trans t.c0,(hb.cell (p:=⟨g,1,none⟩) hg).trans t.c1,(hb.frozen (p:=⟨g,0,none⟩) hg).trans t.f0,(hb.frozen (p:=⟨g,1,none⟩) hg).trans t.f1⟩
theorem QlO(w:World)(n:Nat)(d:BA)(t:Nat):Rt (w.alloc (.cells #[.int .u64 n,.string d] t)) w.heap.size n d:=by
 refine⟨?_,?_,?_,?_⟩ <;> simp
def rtD(c:Nat)(L:LB)(n:Nat):BA:=dg c (UD n (Q4 c (pks c (L.take n) 41)))
theorem QpA(w:World)(n:Nat)(hn:n<=8796093022208):(Instr.makeSlice 22 (.int .i64 0) (.int .i64 n)).run prog w= .ok (.slice (Zp w.heap.size) 0 n) (w.alloc (.cells (madeCells #[.string ByteArray.empty] n) 9)):=by
 obtain⟨i0,hi,xA,xB,xC⟩:=info_parts Tryz.infoS;have hr:=run_make (P:=prog) w 22 9 i0 _ underlying22 hi xA .i64 .i64 0 n (by omega) (by omega) (by rw[xC];omega) (by omega)
 simp only[Int.toNat_natCast,xB,Nat.mul_one] at hr;exact hr
theorem Qlj(w:World)(n:Nat)(hn:n<=8796093022208):Qh (w.alloc (.cells (madeCells #[.string ByteArray.empty] n) 9)) w.heap.size (.slice (Zp w.heap.size) 0 n) [] :=
 ⟨rfl,.inr ⟨w.heap.size,n,_,rfl,La _,LC w _,Ln _,by unfold maxLen;omega,by rw[size_madeCells,Nd],rfl⟩⟩
structure RdB(w:World)(ao:OA)(g off n:Nat)(l:List (Int×Nat)):Prop where
 len:l.length=n
 addr:0<n->ao=some ⟨g,off,none⟩
 cell:∀j,j<n->w.cell? ⟨g,off+j*2,none⟩=some (.int .i64 (l.getD j (0,0)).1)∧w.cell? ⟨g,off+j*2+1,none⟩=some (.int .u64 ((l.getD j (0,0)).2:Nat))
 fit:∀b∈l,Fitb b.1 b.2
variable{w w':World}{B B' g k:Nat}{l:List (Int×Nat)}{v:Value}
theorem RdB.below{ao:OA}{off:Nat}(r:RdB w ao g off n l)(h:Bl w w'):RdB w' ao g off n l :=
 ⟨r.len,r.addr,fun j hj=>⟨(h.cell (p:=⟨g,off+j*2,none⟩) (Lo w _ (r.cell j hj).1)).trans (r.cell j hj).1,(h.cell (p:=⟨g,off+j*2+1,none⟩) (Lo w _ (r.cell j hj).2)).trans (r.cell j hj).2⟩,r.fit⟩
theorem Qef{base:Nat}(h:Cv.YI w base v l)(hf:∀b∈l,Fitb b.1 b.2):∃ao g n cap,v= .slice ao n cap∧RdB w ao g 0 n l∧n<=maxLen:=by
 have h0:=h;obtain⟨h1,h2⟩:=h
 rcases h2 with ⟨rfl,h2⟩|⟨g,cap,cur,rfl,hg,hh,hc1,hc2,hc3,hc4⟩
 ·exact⟨none,0,0,0,rfl,⟨h2,fun h=>absurd h (by omega),fun j hj=>absurd hj (by omega),hf⟩,Ln _⟩
 ·refine⟨Zp g,g,l.length,cap,rfl,⟨rfl,fun _=>rfl,fun j hj=> ?_,hf⟩,by omega⟩
  have xB:=h0.cells (g:=g) rfl;obtain⟨⟨a,b⟩,hq⟩:∃q,l[j]=q:=⟨_,rfl⟩;have xA:l[j]? = some (a,b):=by rw[Lk hj,hq]
  obtain⟨e1,e2⟩:=Cv.QjU l j a b xA;have f1:=xB _ _ e1;have f2:=xB _ _ e2;rw[Addr.add_mid,Ll,LF] at f1 f2;rw[Ld,xA,Ll];exact⟨f1,f2⟩
def dgs(c:Nat)(L:LB):List (Int×Nat)->Option LB
 | []=>some []
 | b::r=>(ff c L b.1 b.2).bind fun x=>(dgs c L r).map fun A=>x::A
theorem Qhk{h:Int}{x:BA}(hx:ff c L h k=some x):∀ {B:List (Int×Nat)} {A:LB},dgs c L B=some A->dgs c L (B++[(h,k)])=some (A++[x])
 | [],A,e=>by
  simp[dgs] at e;subst e;simp[dgs,hx]
 | b::r,A,e=>by
  rw[dgs] at e;obtain⟨y,hy,e⟩:=Option.bind_eq_some_iff.1 e;obtain⟨A',hA,rfl⟩:=Option.map_eq_some_iff.1 e;rw[NW,dgs,hy,Qhk hx hA]
  rfl
theorem QeX{b:Int×Nat}(hb:ff c L b.1 b.2=none):∀ {B:List (Int×Nat)},b∈B->dgs c L B=none
 | [],h=>by cases h
 | d::r,h=>by
  rw[dgs]
  rcases List.mem_cons.1 h with rfl|h
  ·rw[hb];rfl
  ·rw[QeX hb h]
   cases ff c L d.1 d.2 <;> rfl
theorem QdK : ∀ {B:List (Nat×Nat)},(∀b∈B,(b.2+1)*2^b.1<=L.length)->dgs c L (Cv.zl B)=some (B.map fun b=>nd c L b.1 b.2)
 | [],_=>rfl
 | b::r,h=>by
  show dgs c L (((b.1:Int),b.2)::Cv.zl r)=_
  rw[dgs,Qgp c L b.1 b.2 (h b (by simp)),QdK (B:=r) (fun d hd=>h d (by simp[hd]))]
  rfl
theorem Qab(w:World)(m:Nat)(k:Int)(L:LB)(hF:Frs w m k L)(ao:OA)(g off cap:Nat)(B:List (Int×Nat))(hr:RdB w ao g off B.length B)(hmx:B.length<=8796093021952) :
  Calls prog 106 #[.pointer (some ⟨m+1,0,none⟩),.slice ao B.length cap] w fun e w'=>Bl w w'∧((dgs (clk k) L B=none∧e= .returned (.tuple #[.slice none 0 0,.bool false]))∨(∃D,dgs (clk k) L B=some D ∧ ∃v,e= .returned (.tuple #[v,.bool true])∧Qh w' w.heap.size v D)):=by
 have HM:=QpA w B.length (by omega)
 have HF:Hid (∀W,Bl w W->Frs W m k L∧RdB W ao g off B.length B):=fun W hb=>⟨hF.next hb (La _),hr.below hb⟩
 have HX:=Qc hmx;have HO:Hid (Qh (w.alloc (.cells (madeCells #[.string ByteArray.empty] B.length) 9)) w.heap.size (.slice (Zp w.heap.size) 0 B.length) []):=Qlj w _ (by omega)
 have xE:(B.length:Int)<=9223372036854775807:=by omega
 clear hF hr hmx
 go_enter func106,ntmps106;go_wp2
 go_loopg [6,16] B.length (fun g v i wr=> ∃(j:Nat) (A:LB),j<=B.length∧g=B.length-j∧i= .int .i64 j∧A.length=j∧Hid (dgs (clk k) L (B.take j)=some A)∧Qh wr w.heap.size v A∧Bl w wr)
 case atStart=>go_light;exact⟨0,[],Ln _,rfl,rfl,rfl,rfl,HO.out,bal (Lb _ _) _⟩
 case round=>
  clear HM HO;obtain⟨j,A,hj,rfl,rfl,hA,HE,ho,hb⟩:=hrel
  by_cases hlt:j<B.length
  ·have hz:(j:Int)<(B.length:Int):=by omega
   have xF:(0:Int)<=(j:Int):=Lh _;obtain rfl:=(HF.out wr hb).2.addr (by omega)
   obtain⟨c0,c1⟩:=(HF.out wr hb).2.cell j hlt;obtain⟨⟨h,q⟩,hx⟩:∃x,B.getD j (0,0)=x:=⟨_,rfl⟩;rw[hx] at c0 c1;have xB:(h,q)∈B:=by rw[<-hx,Ld,Lk hlt];exact L8 _
   have xD:B.take (j+1)=B.take j++[(h,q)]:=by
    rw[N9,<-hx,Ld,Lk hlt];rfl
   have xA:=(HF.out wr hb).2.fit _ xB
   cases hv:ff (clk k) L h q with
   | none=>
    have HD:Hr w 182 #[.pointer (some ⟨m+1,0,none⟩),.agg #[.int .i64 h,.int .u64 q]] (.tuple #[.string ⟨#[]⟩,.bool false]):=fun W hb=>
     Qbf W m k L (HF.out W hb).1 h q xA ⟨#[]⟩ false (by show _∧_;rw[hv];exact⟨rfl,rfl⟩)
    have HN:Hid (dgs (clk k) L B=none):=QeX (b:=(h,q)) hv xB;clear HE HF hx xB xD xA hv ho hlt hA
    go_wp2_with (go_at_call 182;with_reducible refine(HD.out _ (bal hb _)).mono ?_;rintro e w1 ⟨rfl,xC⟩)
    go_ret2
    exact⟨Qa (bal hb _) xC,.inl ⟨HN.out,rfl⟩⟩
   | some x=>
    have HD:Hr w 182 #[.pointer (some ⟨m+1,0,none⟩),.agg #[.int .i64 h,.int .u64 q]] (.tuple #[.string x,.bool true]):=fun W hb=>
     Qbf W m k L (HF.out W hb).1 h q xA x true (by show _∧_;rw[hv];exact⟨rfl,rfl⟩)
    have HN:Hid (dgs (clk k) L (B.take (j+1))=some (A++[x])):=by rw[xD];exact Qhk hv HE.out
    have HZ:Hid (x.size<=9223372036854775807):=by show x.size<=_;rw[Qm2 (QK k) hv];have:=QK k;omega
    have HO:=Qc ho;have HA:=Qc hA;clear HE HF hx xB xD xA hv ho hA
    go_wp2_with (first
     | (go_at_call 182;with_reducible refine(HD.out _ (bal hb _)).mono ?_;rintro e w1 ⟨rfl,xC⟩)
     | (at_builtin;refine QR _ rfl _ _ rfl w.heap.size _ A rfl (YD (QB (YD HO.out _) xC (La _)) _) (Zp w1.heap.size) w1.heap.size 0 1 [x] rfl (Ux w1 x HZ.out) (fun h=>by cases h) ?c1 ?c2 ?_))
    case c1=>have:=HX.out;have:=HA.out;simp;omega
    case c2=>have:=(Qa (bal hb _) xC).size;simp;omega
    intro v2 w3 h3 hb3;have HY:Hid (Qh w3 w.heap.size v2 (A++[x])∧Bl w w3):=⟨h3,(bal (Qa (bal hb _) xC) _).trans hb3⟩;clear h3 hb3 xC hb;go_wp2
    go_roundg (B.length-(j+1))
    case rel=>go_light;exact⟨j+1,A++[x],by omega,rfl,by go_num,by have:=HA.out;simp;omega,HN,HY.out.1,HY.out.2⟩
    case measure=>go_light;omega
  ·obtain rfl:j=B.length:=by omega
   have hz:¬((B.length:Int)<(B.length:Int)):=by omega
   have HN:Hid (dgs (clk k) L B=some A):=by have:=HE.out;rwa [NJ] at this
   clear HE hlt HF;go_wp2
   go_ret2
   exact⟨hb,.inr ⟨A,HN.out,_,rfl,ho⟩⟩
theorem Qk1(n:Nat)(hn:n<=65536):Cv.Js 0 n n=0∧Cv.covR 0 n n=Cv.cov 0 n:=by
 have h:Cv.Js 0 n n=0:=by rw[Cv.Js,Le (by omega),Le (by omega),Le (by omega)]
 exact⟨h,by rw[Cv.covR,Lf h]⟩
theorem Qjn{b:Nat×Nat}(h:(b.2+1)*2^b.1<=n)(hn:n<=65536):Fitb (b.1:Int) b.2:=by
 have hp:=LN b.1;have h1:2^b.1<=(b.2+1)*2^b.1:=Il _ (by omega)
 have h2:b.2+1<=(b.2+1)*2^b.1:=If _ hp;have h3:b.1<2^b.1:=Nat.lt_two_pow_self;exact⟨⟨by omega,by omega⟩,by omega⟩
theorem QkA(w:World)(ht:Tb w)(m:Nat)(k:Int)(L:LB)(hF:Frs w m k L)(n:Nat)(hn:n<=L.length)(r:BA)(hq:Hid (rtD (clk k) L n=r)) :
  Zr 57 #[.pointer (some ⟨m+1,0,none⟩),.int .u64 n] w (.tuple #[.agg #[.int .u64 n,.string r],.int .i64 0]):=by
 have hL:=hF.hn;obtain⟨e1,e2⟩:=Qk1 n (by omega)
 obtain⟨p1,p2⟩:=QaQ (clk k) L n hn (by omega)
 have xC:dgs (clk k) L (Cv.zl (Cv.cov 0 n))=some (pks (clk k) (L.take n) 41):=by rw[QdK (fun b hb=>Lr (p2 b hb) hn),p1]
 obtain⟨P,hP⟩:=Ze (pks (clk k) (L.take n) 41);rw[hP] at xC;have zP:∀s∈P,s.size<=140737488351232:=by rw[<-hP];exact small (QK k)
 have lP:P.length<=41:=by rw[<-hP];exact Qeg _ _ _
 have HQ:dg (clk k) (UD n (Q4 (clk k) P))=r:=by rw[<-hP];exact hq.out
 have HM:Hid (∀W,Calls prog 105 #[.int .u64 n] W fun x w'=> ∃ao g cap,x= .returned (.tuple #[.slice ao (Cv.zl (Cv.cov 0 n)).length cap,.int .i64 0])∧RdB w' ao g 0 (Cv.zl (Cv.cov 0 n)).length (Cv.zl (Cv.cov 0 n))∧Bl W w'):=fun W=>by
  have:=Cv.Y8 n W;rw[e1,e2] at this;refine this.mono ?_
  rintro x w' ⟨v,rfl,ho,hb⟩;obtain⟨ao,g,n',cap,rfl,hr,_⟩:=Qef ho (fun b hb=>by
   obtain⟨b0,xI,rfl⟩:=List.mem_map.1 hb;exact Qjn (p2 b0 xI) (by omega))
  obtain rfl:=hr.len;exact⟨ao,g,cap,rfl,hr,hb⟩
 have lC:(Cv.zl (Cv.cov 0 n)).length<=80:=by rw[Cv.Ye];exact Cv.O5 0 n (Ln _) (by omega)
 obtain⟨C,hC⟩:=Ze (Cv.zl (Cv.cov 0 n));rw[hC] at HM xC lC;have HD:Hid (∀W ao g cap,Bl w W->RdB W ao g 0 C.length C->Calls prog 106 #[.pointer (some ⟨m+1,0,none⟩),.slice ao C.length cap] W fun e w'=>Bl W w' ∧ ∃ao' b' cap',e= .returned (.tuple #[.slice ao' P.length cap',.bool true])∧RdS w' ao' b' 0 P.length P):=fun W ao g cap hb hr=>by
  refine(Qab W m k L (hF.next hb (La _)) ao g 0 cap C hr (by omega)).mono ?_
  rintro e w' ⟨xH,⟨h1,_⟩|⟨D,h1,v,rfl,ho⟩⟩
  ·rw[xC] at h1;cases h1
  ·rw[xC] at h1;injection h1 with h1
   subst h1;obtain⟨ao',b',cap',rfl,xD,_⟩:=Ya ho (fun s hs=>Lr (zP s hs) (by decide))
   exact⟨xH,ao',b',cap',rfl,xD⟩
 have xG:Hid (∀W,Bl w W -> ∀ao' b' cap',RdS W ao' b' 0 P.length P->Zr 107 #[.int .i64 k,.int .u64 n,.slice ao' P.length cap'] W (.string r)):=fun W hb ao' b' cap' xD=>Qcu W (ht.next hb) k n ao' b' 0 P.length cap' P xD zP (by omega) r HQ
 have HF:Hid (∀W,Bl w W->W.cell? ⟨m+1,0,none⟩=some (.int .i64 k)):=fun W hb=>(hF.next hb (La _)).c0
 have c1:(w.alloc (.cells #[.int .u64 0,.string ⟨#[]⟩] 50)).cell? ⟨m+1,1,none⟩=some (.int .u64 L.length):=(hF.next (bal (Lb w.heap.size w) _) (La _)).c1;have xL:¬(L.length:Int)<(n:Int):=by omega
 have hb:=bal (Lb w.heap.size w) (.cells #[.int .u64 0,.string ⟨#[]⟩] 50);have HN:=QlO w 0 ⟨#[]⟩ 50;rw[show((0:Nat):Int)=0 from rfl] at HN
 have xF:=Qc HN;have HZ:Hid (w.heap.size<(w.alloc (.cells #[.int .u64 0,.string ⟨#[]⟩] 50)).heap.size):=by show _<_;simp
 clear hq hP xC zP lP HQ hC lC e1 e2 p1 p2 hn hL ht hF HN
 go_enter func57,ntmps57
 go_wp2_with (first
  | (go_at_call 105;with_reducible refine(HM.out _).mono ?_;rintro e w1 ⟨ao,g,cap,rfl,xJ,xA⟩)
  | (go_at_call 106;with_reducible refine(HD.out _ _ _ _ (Qa hb xA) xJ).mono ?_;rintro e w2 ⟨xB,ao',b',cap',rfl,xK⟩;have y0:=HF.out _ (Qa (Qa hb xA) xB))
  | (go_at_call 107;with_reducible refine(xG.out _ (Qa (Qa hb xA) xB) _ _ _ xK).mono ?_;rintro e w3 ⟨rfl,xE⟩;have hR:=((xF.out.below xA HZ.out).below xB (Lz HZ.out xA.size)).below xE (Lz HZ.out (Lr xA.size xB.size));have k0:=hR.c0;have k1:=hR.c1;have f0:=hR.f0;have f1:=hR.f1))
 have s0:(w3.setCell ⟨w.heap.size,0,none⟩ (.int .u64 n)).cell? ⟨w.heap.size,0,none⟩=some (.int .u64 n):=Nf _ _ _ k0;have s1:((w3.setCell ⟨w.heap.size,0,none⟩ (.int .u64 n)).setCell ⟨w.heap.size,1,none⟩ (.string r)).cell? ⟨w.heap.size,1,none⟩=some (.string r) :=
  Nf _ _ _ ((Lt _ _ _ _ (by simp)).trans k1)
 refine LD (v := .tuple #[.agg #[.int .u64 n,.string r],.int .i64 0]) (by simp[results,results57,go_sem,s0,s1]) rfl ⟨rfl,?_⟩
 exact((Qa (Qa (Qa hb xA) xB) xE).setCell (p:=⟨w.heap.size,0,none⟩) (La _) _).setCell (p:=⟨w.heap.size,1,none⟩) (La _) _
theorem Qg2(x:Int)(h0:0<=x)(h1:x<18446744073709551616):IntKind.u64.wrap x=x:=by
 simp[IntKind.wrap,IntKind.signed,IntKind.bits];omega
theorem Oo(n:Nat)(w:World)(hn:n<2^64)(t:Nat)(ht:tr 64 n=t) :
  Re 253 #[.int .u64 n] w (.int .i64 t):=by
 subst ht
 go_enter func253,ntmps253;go_wp2
 go_loopg [4] 64 (fun g i wr=> ∃k:Nat,k<=64∧g=64-k∧i= .int .i64 k∧k+tr (64-k) (n/2^k)=tr 64 n∧w=wr)
 case atStart=>go_light;exact⟨0,Ln _,rfl,rfl,by simp,rfl⟩
 case round=>
  obtain⟨k,hk,rfl,rfl,hs,rfl⟩:=hrel;have xA:(0:Int)<=(k:Int):=Lh _
  by_cases hlt:k<64
  ·have xB:(k:Int)<64:=by omega
   have HC:=Pl.YY n k w hn hlt;have HS:=Qib k n hlt
   by_cases hb:n/2^k%2=1
   ·rw[Lf hb] at HS;rw[LW hb] at HC
    go_wp2_with (go_at_call 224;refine HC.mono ?_;rintro e w' ⟨rfl,rfl⟩)
    go_ret
    refine⟨?_,rfl⟩
    rw[<-hs,HS]
    rfl
   ·rw[Le hb] at HS;rw[LA hb] at HC
    go_wp2_with (go_at_call 224;refine HC.mono ?_;rintro e w' ⟨rfl,rfl⟩)
    go_roundg (64-(k+1))
    case rel=>go_light;exact⟨k+1,by omega,rfl,by go_num,by omega,rfl⟩
    case measure=>go_light;omega
  ·obtain rfl:k=64:=by omega
   clear hk hlt;go_wp2
   go_ret
   refine⟨?_,rfl⟩
   rw[<-hs]
   rfl
theorem Qee(w:World)(s:BA):Qh (w.alloc (.cells #[.string s] 9)) w.heap.size (.slice (Zp w.heap.size) 1 1) [s] :=
 ⟨rfl,.inr ⟨w.heap.size,1,#[.string s],rfl,La _,LC w _,La _,by unfold maxLen;omega,rfl,rfl⟩⟩
theorem QO{l:LB}(h:Qh w B v l)(hB:B'<=B):Qh w B' v l:=by
 obtain⟨h1,h2⟩:=h;refine⟨h1,?_⟩
 rcases h2 with h2|⟨g,cap,cur,hv,hg,h3⟩
 ·exact .inl h2
 ·exact .inr ⟨g,cap,cur,hv,by omega,h3⟩
structure Chf(m:Nat)(w w':World):Prop where
 below:Below m w w'
 block:∀q,q<w.heap.size->q≠m->q≠m+1->w'.heap[q]? = w.heap[q]?
variable{m q:Nat}{w1 w2:World}{k x:Int}
theorem Chf.refl(m:Nat)(w:World):Chf m w w:=⟨Lb _ _,fun _ _ _ _=>rfl⟩
theorem Chf.of(h:Bl w w')(hm:m<w.heap.size):Chf m w w':=⟨h.mono (Nat.le_of_lt hm),fun q hq _ _=>h.block q hq⟩
theorem Chf.trans(h:Chf m w w1)(h2:Chf m w1 w2):Chf m w w2 :=
 ⟨h.below.trans h2.below,fun q hq x y=>(h2.block q (Lz hq h.below.size) x y).trans (h.block q hq x y)⟩
theorem Chf.size(h:Chf m w w'):w.heap.size<=w'.heap.size:=h.below.size
theorem Chf.next(h:Chf m w w1)(h2:Bl w1 w2)(hm:m<w.heap.size):Chf m w w2:=h.trans (Chf.of h2 (Lz hm h.size))
theorem Chf.set(h:Chf m w w')(i:Nat)(v:Value)(hb:b=m+1∨w.heap.size<=b)(hm:m<w.heap.size):Chf m w (w'.setCell ⟨b,i,none⟩ v):=by
 refine⟨h.below.setCell (p:=⟨b,i,none⟩) (by show m<=b;omega) v,fun q hq x y=> ?_⟩
 rw[<-h.block q hq x y];exact Below.heap_setCell _ _ _ _ (by show q≠b;omega)
theorem Chf.put(h:Chf m w w')(o:Obj):Chf m w (ChangeMaps.setBlock w' m o):=by
 refine⟨⟨h.below.os,h.below.tape,h.below.output,?_,fun q hq=> ?_⟩,fun q hq x _=> ?_⟩
 ·simp[ChangeMaps.setBlock,h.below.size]
 ·rw[<-h.below.block q hq];simp[ChangeMaps.setBlock,show ¬m=q by omega]
 ·rw[<-h.block q hq x (by assumption)]
  simp[ChangeMaps.setBlock,show ¬m=q by omega]
theorem Ji(o:Obj)(h:q≠m):(ChangeMaps.setBlock w m o).heap[q]? = w.heap[q]? := by
 simp[ChangeMaps.setBlock,show ¬m=q by omega]
theorem QqK(h0:w.cell? ⟨g,0,none⟩=some (.int .u32 x))(hF:Frs w m k L):g≠m∧g≠m+1:=by
 constructor
 ·rintro rfl;obtain⟨es,c,hm,_⟩:=hF.mp;simp[World.cell?,hm] at h0
 ·rintro rfl;rw[hF.c0] at h0
  cases h0
theorem Tb.chf(ht:Tb w)(hF:Frs w m k L)(hc:Chf m w w'):Tb w':=by
 have xB:=QF ht.rs (QeS (by rw[OG];decide))
 obtain⟨x,h0⟩:∃x,w.cell? ⟨3,0,none⟩=some (.int .u32 x):=by
  have hx:0<RS.length:=by rw[OG];decide
  exact⟨RS[0],ht.rs 0 _ (by simp[cW,hx])⟩
 obtain⟨xC,xA⟩:=QqK h0 hF;refine⟨fun j u hu=> ?_⟩
 rw[<-ht.rs j u hu];have:=hc.block _ xB xC xA;simp only[World.cell?,this]
namespace Kp
open Pl (Qz)
variable{Q:Exit->Act->World->Prop}
theorem QiF{l:Nat}{J J':Act->World->Prop}(h:∀a w,J a w->J' a w):∀e a w,Exit.jump l J Q e a w->Exit.jump l J' Q e a w:=by
 intro e a w hq
 cases e with
 | goto l'=>exact⟨hq.1,h _ _ hq.2⟩
 | _=>exact hq
theorem QeM{P:Program}{a:Act}{c X:Code}(l:Nat)(J:Act->World->Prop)(μ:Act->World->Nat)(hf:findLabel c l=some (Code.skip.seq X))
  (pass:∀a w,J a w->X.wp P (Exit.jump l (fun a' w'=>J a' w'∧μ a' w'<μ a w) Q) a w)
  (first:(∀a w,J a w->X.wp P (Exit.jump l J Q) a w)->c.wp P (Exit.jump l J Q) a w):(Code.scope c).wp P Q a w :=
 wp_scope_jumps l J μ hf (first fun a w h=>wp_mono (pass a w h) (QiF fun _ _ h=>h.1)) fun a w h=>wp_seq (wp_skip (pass a w h))
def UK:Value->Nat
 | .slice _ n _=>n
 | _=>0
def Qqi(v u:Value):Prop := ∀g,v.ownBlock=some g->u.ownBlock=some g->False
structure Did(w w':World)(p:Nat)(v:Value)(k:Int)(n':Nat)(P':LB)(vm:Value)(M:LB)(v':Value):Prop where
 rg:Rg w' p v' k n' P'
 own:Qh w' w.heap.size vm M
 ch:Ch p w w'
 new:v'=v ∨ ∀g,v'.ownBlock=some g->w.heap.size<=g
 apart:Qqi vm v'
theorem Uf{p i:Nat}{x:Value}{l:LB}(h:Qh w B v l)(hp:p<B):Qh (w.setCell ⟨p,i,none⟩ x) B v l:=by
 obtain⟨h1,h2⟩:=h;refine⟨h1,?_⟩
 rcases h2 with h2|⟨g,cap,cur,rfl,hg,hh,r⟩
 ·exact .inl h2
 ·exact .inr ⟨g,cap,cur,rfl,hg,by rw[<-hh];exact Below.heap_setCell _ _ _ _ (by show g≠p;omega),r⟩
structure At(w wr:World)(c h t f left:Nat)(d:BA)(A0 P' M Q:LB)(vm:Value)(ao:OA)(b len cap:Nat):Prop where
 hlen:P'.length=len
 hleft:left=2^h*t
 ht:t<2^f
 hf:h+f=40
 hd:d.size=c
 hP:∀s∈P',s.size=c
 hl:P'.length=(ol (fun h _=>h) 41 left).length
 hA:A0.length<=h
 hM:A0++(Yf c f t P' d).1=M
 hQ:(Yf c f t P' d).2=Q
 own:Qh wr w.heap.size vm (A0++[d])
 rd:RdS w ao b 0 len P'
 cap:len<=cap
 below:Bl w wr
variable{cap left t:Nat}{d d':BA}{A0 M P':LB}{vm vm':Value}{ao:OA}
theorem At.next{wr W:World}{f:Nat}{Q:LB}(s:At w wr c h t f left d A0 P' M Q vm ao b len cap)(hb:Bl wr W):At w W c h t f left d A0 P' M Q vm ao b len cap :=
 ⟨s.hlen,s.hleft,s.ht,s.hf,s.hd,s.hP,s.hl,s.hA,s.hM,s.hQ,QB s.own hb (La _),s.rd,s.cap,Qa s.below hb⟩
theorem At.lt{wr:World}{f:Nat}{Q:LB}(s:At w wr c h t f left d A0 P' M Q vm ao b len cap):left<1099511627776:=by
 rw[s.hleft,show 1099511627776=2^(h+f) by rw[s.hf],II]
 exact Nat.mul_lt_mul_of_pos_left s.ht (LN h)
theorem At.pop{wr W:World}{f:Nat}{Q:LB}(hc:c<=32)(s:At w wr c h t f left d A0 P' M Q vm ao b (m+1) cap)(ho:t%2=1)(hd:dg c (QN (P'.getD m ByteArray.empty) d)=d')(hb:Bl w W)(ho':Qh W w.heap.size vm' ((A0++[d])++[d'])) :
  ∃f',At w W c (h+1) (t/2) f' (left-2^h) d' (A0++[d]) (P'.take m) M Q vm' ao b m cap:=by
 have hf:=s.hf;have xB:=s.ht;have hl:=s.hl;have xD:=s.hlen;have xC:=s.cap;have hA:=s.hA;have xA:=s.rd
 cases f with
 | zero=>simp at xB;omega
 | succ f=>
  have hM:=s.hM;have hQ:=s.hQ;have e:P'.length-1=m:=by omega
  rw[UU ho (d':=d') (by rw[e];exact hd),e] at hM hQ
  rw[s.hleft] at hl ⊢;rw[Qcj _ (by omega) ho,Lc,LK] at hl
  rw[LH] at xB;refine⟨f,⟨by rw[Lx];omega,(UG ho).1,by omega,by omega,by rw[<-hd];exact Jr hc _,fun s' hs=>s.hP s' (Nq hs),by rw[(UG ho).1,Lx];omega,by simp;omega,by rw[<-hM];simp,hQ,ho',?_,by omega,hb⟩⟩
  refine⟨by rw[Lx];omega,fun h0=>xA.ptr (by omega),fun j v hv=> ?_,fun s hs=>xA.sz s (Nq hs)⟩
  rw[NK,LT] at hv
  split at hv
  ·exact xA.rng j v hv
  ·cases hv
def LayJ(w:World)(p gr c:Nat)(M Q:LB)(a':Act)(w':World):Prop := ∃(h t f left:Nat) (d:BA) (A0 P':LB) (vm:Value) (ao:OA) (b len cap:Nat) (u11 u12 u13 u14 u15 u16 u17 u18 u19 u20 u21 u22 u23 u24 u25 u26 u27 u28 u29 u30 u31 u32 u33 u34 u35 u36 u37 u38 u39 u40 u41 u42 u43 u44 u45 u46 u47 u48 u49 u50 u51 u52 u53 u54 u55 u56 u57 u58:Value),
  a' = { tmps:=#[Pq p,.int .i64 h,.string d,undef,undef,undef,.slice none 0 0,vm,.int .u64 gr,.slice ao len cap,.int .u64 left,u11,u12,u13,u14,u15,u16,u17,u18,u19,u20,u21,u22,u23,u24,u25,u26,u27,u28,u29,u30,u31,u32,u33,u34,u35,u36,u37,u38,u39,u40,u41,u42,u43,u44,u45,u46,u47,u48,u49,u50,u51,u52,u53,u54,u55,u56,u57,u58,undef,undef,undef,undef,undef,undef,undef,undef,undef,undef,undef,undef,undef],defers:=[] } ∧
  At w w' c h t f left d A0 P' M Q vm ao b len cap
def muL(a':Act)(_:World):Nat:=UK (a'.tmps.getD 9 undef)
theorem QdX(w:World)(ht:Tb w)(p:Nat)(v:Value)(k:Int)(n:Nat)(P:LB)(hr:Rg w p v k n P)(h:Nat)(hh:h<=40)(d:BA)(hd:d.size=clk k)(h0:n%2^h=0)(gr:Nat)(hgr0:n+2^h=gr)(h1:gr<=1099511627776)(M Q:LB)(hM:Hid (mk (clk k) n P h d=(M,Q))) :
  Calls prog 251 #[Pq p,.int .i64 h,.string d] w fun e w'=> ∃vm v',e= .returned vm∧Did w w' p v k gr Q vm M v':=by
 obtain⟨ao,b,xN,hv,xS,xF,yC⟩:=hr.rd;obtain⟨q,hq⟩:=Ze (2^h);have yA:n+q=gr:=by rw[<-hq];exact hgr0
 have HI:Hid (∀W,Re 331 #[.int .i64 h] W (.int .u64 q)):=fun W=>Qc5 h W hh q hq
 have xM:IntKind.u64.wrap ((n:Int)+(q:Int))=(gr:Int):=by rw[Qg2 _ (by omega) (by omega)];omega
 have xG:Hid (∀W,Bl w W->Rg W p v k n P):=fun W hb=>hr.next hb (La _)
 have xZ:Hid (∀W,Bl w W->Tb W):=fun W hb=>ht.next hb
 have c1:=fun o=>(xG.out _ (bal (Lb _ _) o)).c1
 have c2:=fun o=>(xG.out _ (bal (Lb _ _) o)).c2
 rw[hv] at c2;have HS:Hid (At w (w.alloc (.cells #[.string d] 9)) (clk k) h (n/2^h) (40-h) n d [] P M Q (.slice (Zp w.heap.size) 1 1) ao b P.length xN):=by
  have hn:=hr.hn;have yE:=N4 n (2^h);refine⟨rfl,by omega,?_,by omega,hd,hr.hs,hr.hl,Ln _,by rw[Nj];exact Lv Prod.fst hM.out,Lv Prod.snd hM.out,Qee w d,xS,xF,bal (Lb _ _) _⟩
  rw[Nat.div_lt_iff_lt_mul (LN h),<-II,show 40-h+h=40 by omega]
  have:=LN h;omega
 have HN:Hid (n<=1099511627776∧gr<=1099511627776∧Q.length=(hts gr).length∧(∀s∈Q,s.size=clk k)∧1<=k∧k<=32):=by
  have eQ:(Yf (clk k) (40-h) (n/2^h) P d).2=Q:=Lv Prod.snd hM.out;refine⟨hr.hn,h1,?_,?_,hr.k1,hr.k2⟩
  ·rw[<-eQ,Qii (clk k) 41 (40-h) h (n/2^h) P d (by omega) HS.out.ht (by rw[<-HS.out.hleft];exact hr.hl),<-HS.out.hleft,hgr0];rfl
  ·rw[<-eQ];exact(Qge (QK k) _ _ _ _ hr.hs hd).2
 have xW:Hid (p<w.heap.size):=hr.lt;have HV:=Qc hv;clear hM yA hgr0 hq h1 h0 hh ht hr xS xF yC hd
 go_enter func251,ntmps251;go_wp2;refine QeM 0 (LayJ w p gr (clk k) M Q) muL rfl ?pass ?first
 case first=>
  intro HP;have xX:=Qc HP;clear HP;go_wp2
  go_quiet ((go_at_call 331;refine Calls.quiet_of_same (HI.out _)))
  go_wp2
  go_quiet (fail)
  go_wp2
  go_step3
  rename_i K0 hK0
  refine hK0 _ _ (xX.out _ _ ⟨h,n/2^h,40-h,n,d,[],P,_,ao,b,P.length,xN,_,_,_,_,_,_,_,_,_,_,_,_,_,_,_,_,_,_,_,_,_,_,_,_,_,_,_,_,_,_,_,_,_,_,_,_,_,_,_,_,_,_,_,_,_,_,_,_,rfl,HS.out.next ?_⟩)
  exact Qi (Qi (Lb _ _) _) _
 case pass=>
  clear HS HI xM c1 c2 h d;rintro a' w' ⟨h,t,f,xA,d,A0,P',vm,xH,b',xU,xB,u11,u12,u13,u14,u15,u16,u17,u18,u19,u20,u21,u22,u23,u24,u25,u26,u27,u28,u29,u30,u31,u32,u33,u34,u35,u36,u37,u38,u39,u40,u41,u42,u43,u44,u45,u46,u47,u48,u49,u50,u51,u52,u53,u54,u55,u56,u57,u58,rfl,xJ⟩;have HA:=Qc xJ;have xE:=xJ.lt;have xL:=Qc xE;clear xJ xE
  by_cases ho:t%2=1
  ·have hh:h<=39:=by
    have h1:=HA.out.hf;have h2:=HA.out.ht
    apply Ig
    intro h3;obtain rfl:f=0:=by omega
    simp at h2;omega
   have hT:tr 64 xA=h:=by
    rw[Qmf 64 h xA (by omega),HA.out.hleft,(Ju h t).2]
    exact⟨(Ju h t).1,ho⟩
   have HT:Hid (∀W,Rf 253 #[.int .u64 xA] W (.int .i64 h)):=fun W=>(Oo xA W (by have:=xL.out;omega) h hT).mono fun _ _ h=>⟨h.1,h.2.symm⟩
   obtain⟨m,rfl⟩:∃m,xU=m+1:=by
    have h1:=HA.out.hl;rw[HA.out.hleft,Qcj _ (by omega) ho,Lc,LK,HA.out.hlen] at h1
    exact⟨xU-1,by omega⟩
   obtain⟨q,hq⟩:=Ze (2^h);obtain⟨l2,xP⟩:=Ze (xA-2^h);obtain⟨h2,xO⟩:=Ze (h+1);have yD:q<=xA:=by
    rw[HA.out.hleft,<-hq];exact If _ (by omega)
   have HI:Hid (∀W,Re 331 #[.int .i64 h] W (.int .u64 q)):=fun W=>Qc5 h W (by omega) q hq
   have e1:IntKind.i64.wrap (m:Int)=(m:Int):=by
    have:=HA.out.hl;have:=Oc (fun h _=>h) 41 xA
    have:=HA.out.hlen;rw[Lq];omega
   have e2:IntKind.u64.wrap ((xA:Int)-(q:Int))=(l2:Int):=by
    have:=xL.out;rw[Qg2 _ (by omega) (by omega)];omega
   have e3:IntKind.i64.wrap ((h:Int)+1)=(h2:Int):=by rw[Lq];omega
   have i1:(m:Int)<(m:Int)+1:=by omega
   have i2:(0:Int)<=(m:Int):=Lh _;have i3:(m:Int)<=(xB:Int):=by have:=HA.out.cap;omega
   obtain rfl:=HA.out.rd.ptr (by omega)
   obtain⟨x,hx⟩:=Ze (P'.getD m ByteArray.empty);obtain⟨d',xI⟩:∃d',dg (clk k) (QN x d)=d':=⟨_,rfl⟩;have xV:Hr w 227 #[.int .i64 k,.string x,.string d] (.string d'):=fun W hb=>by
    have hc:=QK k;have z1:x.size=clk k:=by rw[<-hx];exact HA.out.hP _ (Ud (by rw[HA.out.hlen];omega))
    have z2:=HA.out.hd;exact U8 W (xZ.out W hb) k x d (by omega) (by omega) d' xI
   have HK:Hid (∀W,Bl w' W->W.cell? ⟨p,0,none⟩=some (.int .i64 k)∧W.cell? ⟨b',m,none⟩=some (.string x)):=fun W hb=>by
    have c3:=(HA.out.rd.next (Qa HA.out.below hb) (La _)).at (k:=m) (by omega)
    rw[Ll,hx] at c3;exact⟨(xG.out W (Qa HA.out.below hb)).c0,c3⟩
   have HE:Hid (x=P'.getD m ByteArray.empty∧d'=dg (clk k) (QN x d)∧l2=xA-2^h∧h2=h+1∧d'.size<=9223372036854775807∧A0.length<=40):=⟨hx.symm,xI.symm,xP.symm,xO.symm,by rw[<-xI,Jr (QK k)];have:=QK k;omega,by have:=HA.out.hA;omega⟩
   clear hT xP xO yD hx xI hq hh hv
   go_upto_region 6 with (go_at_call 253;with_reducible refine(HT.out _).mono ?_;rintro e w1 ⟨rfl,rfl⟩)
   obtain⟨y1,y2⟩:=HK.out w'.drew (Lb w'.heap.size w').drew;have hd:Bl w' w'.drew:=(Lb w'.heap.size w').drew
   go_region_held3 (fun w'=>w'.cell? ⟨p,0,none⟩=some (.int .i64 k)∧w'.cell? ⟨b',m,none⟩=some (.string x)) (first|assumption|(exact HK.out _ (Qa hd hb2))|(exact HK.out _ hd)) ((go_at_call 227;with_reducible refine(xV.out _ (Qa HA.out.below hd)).mono ?_;rintro e w2 ⟨rfl,hb2⟩))
   have xK:Hid (Bl w' w2):=Qa hd hb2;clear hb2 hd y1 y2
   go_wp2_with (at_builtin;refine QR _ rfl _ _ rfl w.heap.size _ (A0++[d]) rfl (YD (QB HA.out.own xK.out (La _)) _) (Zp w2.heap.size) w2.heap.size 0 1 [d'] rfl (Ux w2 d' HE.out.2.2.2.2.1) (fun h=>by cases h) ?c1 ?c2 ?_)
   case c1=>have:=HE.out.2.2.2.2.2;simp;omega
   case c2=>have:=(Qa HA.out.below xK.out).size;simp;omega
   intro v3 w3 h3 hb3;have HX:Hid (Qh w3 w.heap.size v3 ((A0++[d])++[d'])∧Bl w w3):=⟨by simpa using h3,(bal (Qa HA.out.below xK.out) _).trans hb3⟩
   clear h3 hb3;go_wp2
   go_quiet ((go_at_call 331;refine Calls.quiet_of_same (HI.out _)))
   go_wp2
   go_step3
   obtain⟨x1,x2,x3,x4,x5,x6⟩:=HE.out;obtain⟨f',hP⟩:=HA.out.pop (QK k) ho (by rw[<-x1];exact x2.symm) HX.out.2 HX.out.1
   rw[<-x3,<-x4] at hP;refine⟨rfl,⟨h2,t/2,f',l2,d',A0++[d],P'.take m,_,_,b',m,xB,_,_,_,_,_,_,_,_,_,_,_,_,_,_,_,_,_,_,_,_,_,_,_,_,_,_,_,_,_,_,_,_,_,_,_,_,_,_,_,_,_,_,_,_,_,_,_,_,rfl,hP.next (Qi (Lb _ _) _)⟩,?_⟩
   show m<m+1
   omega
  ·have xR:tr 64 xA≠h:=by
    rw[Ne,Qmf 64 h xA (by have:=HA.out.hf;omega),HA.out.hleft,(Ju h t).2]
    exact fun h=>ho h.2
   obtain⟨T,hT⟩:=Ze (tr 64 xA);have HT:Hid (∀W,Rf 253 #[.int .u64 xA] W (.int .i64 T)):=fun W=>(Oo xA W (by have:=xL.out;omega) T hT).mono fun _ _ h=>⟨h.1,h.2.symm⟩
   have yB:¬((T:Int)=(h:Int)):=by rw[hT] at xR;omega
   obtain rfl:=HA.out.hlen;have HC:Hid (∀W,Rf 332 #[.slice xH P'.length xB] W (.slice xH P'.length P'.length)):=fun W=>(Qj7 W xH _ xB HA.out.cap).mono fun _ _ h=>⟨h.1,h.2.symm⟩
   have HL:Hid (P'.length<=1000):=by show _<=_;rw[HA.out.hl];have:=Oc (fun h _=>h) 41 xA;omega
   clear xR hT hv
   go_wp2_with (first
    | (go_at_call 253;with_reducible refine(HT.out _).mono ?_;rintro e w1 ⟨rfl,rfl⟩)
    | (go_at_call 332;with_reducible refine(HC.out _).mono ?_;rintro e w1 ⟨rfl,rfl⟩)
    | (at_builtin;refine OX _ rfl _ _ rfl xH b' P' rfl (HA.out.rd.next (bal HA.out.below _) (La _)) ⟨w'.heap.size,0,none⟩ d rfl (by simp) HL.out ?_))
   intro v2 w3 h3 hb3;obtain⟨g2,xC,xT,_⟩:=Qfo h3 (by simp)
   obtain⟨n2,xQ⟩:=Ze ((P'++[d]).length);rw[xQ] at xT;subst xT;clear xQ;have xD:Hid (Bl w w3∧Bl w' w3∧Qh w3 w'.heap.size (.slice (Zp g2) n2 xC) (P'++[d])):=⟨Qa HA.out.below ((bal (Lb w'.heap.size w') _).trans (hb3.mono (I7 _))),(bal (Lb w'.heap.size w') _).trans (hb3.mono (I7 _)),QO h3 (I7 _)⟩;clear h3 hb3;have R3:=xG.out w3 xD.out.1;have y1:=R3.c1;have y2:=R3.c2;have z1:=R3.fz 1;have z2:=R3.fz 2;have xY:=Qc R3;clear R3;go_wp2
   try simp only[Exit.jump]
   go_ret
   have xE:=xW.out;have yF:=HA.out.below.size;refine⟨vm,.slice (Zp g2) n2 xC,rfl,⟨?_,?_,?_,?_,?_⟩⟩
   ·obtain⟨q1,q2,q3,q4,q5,q6⟩:=HN.out;have hQ:P'++[d]=Q:=by have:=HA.out.hQ;rw[YV ho] at this;exact this
    refine⟨?_,QO (Uf (Uf (by rw[<-hQ];exact xD.out.2.2) (by omega)) (by omega)) (Ln _),q5,q6,q2,q3,q4⟩
    have e1:=Lm w3 p 2 _ 234 (.slice (Zp g2) n2 xC) xY.out.blk;have e2:=Lm _ p 1 _ 234 (.int .u64 gr) e1;exact e2
   ·have hM:A0++[d]=M:=by have:=HA.out.hM;rw[YV ho] at this;exact this
    rw[<-hM];exact Uf (Uf (QB HA.out.own xD.out.2.1 (La _)) xE) xE
   ·exact((Ch.of xD.out.1 xE).set 2 _).set 1 _
   ·right
    intro g hg;have:=(LO xD.out.2.2 g hg).1;omega
   ·intro g xM hg2;have a1:=(LO xD.out.2.2 g hg2).1;have a2:=(LO HA.out.own g xM).2;omega
theorem Qcz(w:World)(p:Nat)(v:Value)(k:Int)(n:Nat)(P:LB)(hr:Rg w p v k n P) :
  Zr 159 #[Pq p] w (.int .u64 n):=by
 have c1:=hr.c1;clear hr
 go_enter func159,ntmps159;go_wp2
 go_ret
 exact⟨rfl,Lb _ _⟩
theorem QgU(w:World)(p:Nat)(v:Value)(k:Int)(n:Nat)(P:LB)(hr:Rg w p v k n P) :
  Calls prog 160 #[Pq p] w fun e w'=> ∃u,e= .returned u∧Qh w' w.heap.size u P∧Bl w w':=by
 obtain⟨ao,b,xB,hv,xD,xA,xC⟩:=hr.rd;have c2:=hr.c2;rw[hv] at c2;have HC:Hid (Ro 158 #[.slice ao P.length xB] w P):=J6 w ao b 0 xB P xD xC (by have:=hr.short;omega)
 clear hr hv xD xA xC
 go_enter func160,ntmps160
 go_wp2_with (go_at_call 158;with_reducible refine HC.out.mono ?_;rintro e w1 ⟨u,rfl,ho,hb⟩)
 go_ret
 exact⟨u,rfl,ho,hb⟩
theorem Qu{l:LB}(h:Qh w B v l):∃ao cap,v= .slice ao l.length cap:=by
 obtain⟨_,h2⟩:=h
 rcases h2 with ⟨h2,h3⟩|⟨g,cap,cur,hv,_⟩
 ·exact⟨none,0,by rw[h2,h3]⟩
 ·exact⟨_,cap,hv⟩
def fe(k:Int)(n:Nat)(L:LB):Nat :=
 if k<1∨32<k then 70 else if 1099511627776<n then 30 else if L.length≠Qz 64 n ∨ ¬(∀s∈L,(s.size:Int)=k) then 90 else 0
theorem Qne(h1:1<=k)(h2:k<=32):chk k=0:=by rw[chk,Le (by omega)]
theorem Qnd(h:k<1∨32<k):chk k=70:=by rw[chk,Lf h]
def Made(w w':World)(k:Int)(n:Nat)(L:LB)(e0:Nat)(e:Ending):Prop :=
 Bl w w'∧((e0≠0∧e= .returned (.tuple #[.pointer none,.int .i64 e0]))∨(e0=0 ∧ ∃p v,e= .returned (.tuple #[Pq p,.int .i64 0])∧Rg w' p v k n L∧w.heap.size<=p ∧ ∀g,v.ownBlock=some g->w.heap.size<=g))
theorem Qe3(w:World)(k:Int)(n:Nat)(hn64:n<18446744073709551616)(ao:OA)(b off cap:Nat)(L:LB)(hr:RdS w ao b off L.length L)(hno:ao=none->cap=0)(hmx:L.length<=8796093022208)(e0:Nat)(he:fe k n L=e0) :
  Calls prog 94 #[.int .i64 k,.int .u64 n,.slice ao L.length cap] w fun e w'=>Made w w' k n L e0 e:=by
 have hb:=Lb w.heap.size w;have HC:Hid (∀W,Rf 91 #[.int .i64 k] W (.int .i64 (chk k))):=fun W=>(Yp W k).mono fun _ _ h=>⟨h.1,h.2.symm⟩
 by_cases hk:k<1∨32<k
 ·obtain rfl:e0=70:=by rw[<-he,fe,Lf hk]
  rw[Qnd hk] at HC;clear he hk hr hno hmx hn64
  go_enter func94,ntmps94
  go_wp2_with (go_at_call 91;with_reducible refine(HC.out _).mono ?_;rintro e w1 ⟨rfl,rfl⟩)
  go_ret2
  exact⟨hb,.inl ⟨by decide,rfl⟩⟩
 ·have k1:1<=k:=by omega
  have k2:k<=32:=by omega
  rw[Qne k1 k2] at HC
  by_cases hn:1099511627776<n
  ·obtain rfl:e0=30:=by rw[<-he,fe,Le hk,Lf hn]
   have xH:decide ((1099511627776:Int)<(n:Int))=true:=by simp;omega
   clear he hk hr hno hmx hn64 hn
   go_enter func94,ntmps94
   go_wp2_with (go_at_call 91;with_reducible refine(HC.out _).mono ?_;rintro e w1 ⟨rfl,rfl⟩)
   go_ret2
   exact⟨hb,.inl ⟨by decide,rfl⟩⟩
  ·have xH:decide ((1099511627776:Int)<(n:Int))=false:=by simp;omega
   obtain⟨o,ho⟩:=Ze (Qz 64 n);have HO:Hid (∀W,Rf 138 #[.int .u64 n] W (.int .i64 o)):=fun W=>by
    have:=Pl.Jb n W (by omega)
    rw[ho] at this;exact this.mono fun _ _ h=>⟨h.1,h.2.symm⟩
   by_cases hl:L.length=o
   ·subst hl;have HE:Hid ((¬(∀s∈L,(s.size:Int)=k)->e0=90)∧((∀s∈L,(s.size:Int)=k)->e0=0)):=by
     refine⟨fun h=> ?_,fun h=> ?_⟩
     ·rw[<-he,fe,Le hk,Le hn,Lf (.inr h)]
     ·rw[<-he,fe,Le hk,Le hn,Le];rintro(h1|h1)
      ·exact h1 ho.symm
      ·exact h1 h
    have HG:Hid (n<=1099511627776∧L.length=(hts n).length∧L.length<=1000):=by
     have h1:=Qe6 (n:=n) (by omega)
     have h2:=QkG n;exact⟨by omega,by omega,by omega⟩
    have xE:Hid (Ro 158 #[.slice ao L.length cap] w L):=J6 w ao b off cap L hr hno hmx;have HR:Hid (RdS w ao b off L.length L):=hr;have HB:=Qc hb;have HK:=Qc (Nx k1 k2);clear he hk hno hmx hn64 hn ho hr hb k1 k2
    go_enter func94,ntmps94
    go_wp2_with (first
     | (go_at_call 91;with_reducible refine(HC.out _).mono ?_;rintro e w1 ⟨rfl,rfl⟩)
     | (go_at_call 138;with_reducible refine(HO.out _).mono ?_;rintro e w1 ⟨rfl,rfl⟩))
    go_loopg [25] L.length (fun g i wr=> ∃j:Nat,j<=L.length∧g=L.length-j∧i= .int .i64 j∧Hid (∀s∈L.take j,(s.size:Int)=k)∧w=wr)
    case atStart=>go_light;exact⟨0,Ln _,rfl,rfl,(fun s hs=>by cases hs),rfl⟩
    case round=>
     obtain⟨j,hj,rfl,rfl,HT,rfl⟩:=hrel
     by_cases hlt:j<L.length
     ·have hz:(j:Int)<(L.length:Int):=by omega
      have xM:(j:Int)<1000:=by have:=HG.out.2.2;omega
      have xL:(0:Int)<=(j:Int):=Lh _;obtain rfl:=HR.out.ptr (by omega)
      have cj:=HR.out.at hlt;obtain⟨x,hx⟩:=Ze (L.getD j ByteArray.empty);have xB:=Ud hlt;have xC:L.take (j+1)=L.take j++[x]:=by
       rw[N9,<-hx,Ld,Lk hlt];rfl
      rw[hx] at cj xB
      by_cases hs:(x.size:Int)=k
      ·have xA:Hid (∀s∈L.take (j+1),(s.size:Int)=k):=fun s hs2=>by
        rw[xC] at hs2
        rcases List.mem_append.1 hs2 with h|h
        ·exact HT.out s h
        ·simp at h;rw[h];exact hs
       subst hs;clear hx xB xC HT;go_wp2
       go_roundg (L.length-(j+1))
       case rel=>go_light;exact⟨j+1,by omega,rfl,by go_num,xA,rfl⟩
       case measure=>go_light;omega
      ·have hE:e0=90:=HE.out.1 fun h=>hs (h x xB)
       have xF:=Qc hE;clear hE hx xB xC HT;go_wp2
       go_ret2
       refine⟨HB.out,.inl ?_⟩
       rw[xF.out];exact⟨by decide,rfl⟩
     ·obtain rfl:j=L.length:=by omega
      have hz:¬((L.length:Int)<(L.length:Int)):=by omega
      have xA:Hid (∀s∈L,(s.size:Int)=k):=by have:=HT.out;rwa [NJ] at this
      clear HT
      go_wp2_with (go_at_call 158;with_reducible refine xE.out.mono ?_;rintro e w1 ⟨v,rfl,hv,xD⟩;obtain⟨xJ,xG,rfl⟩:=Qu hv)
      go_ret2
      have hE:e0=0:=HE.out.2 xA.out;have xI:=xD.size;refine⟨bal xD _,.inr ⟨hE,_,_,rfl,⟨LC w1 _,QO (YD hv _) (Ln _),HK.out.1,HK.out.2,HG.out.1,HG.out.2.1,fun s hs=> ?_⟩,xI,fun g hg=>(LO hv g hg).1⟩⟩
      have h1:=xA.out s hs;have h2:=JF HK.out.1 HK.out.2;omega
   ·obtain rfl:e0=90:=by rw[<-he,fe,Le hk,Le hn,Lf (.inl (by rw[ho];exact hl))]
    have xK:¬((L.length:Int)=(o:Int)):=by omega
    clear he hk hr hno hmx hn64 hn hl ho
    go_enter func94,ntmps94
    go_wp2_with (first
     | (go_at_call 91;with_reducible refine(HC.out _).mono ?_;rintro e w1 ⟨rfl,rfl⟩)
     | (go_at_call 138;with_reducible refine(HO.out _).mono ?_;rintro e w1 ⟨rfl,rfl⟩))
    go_ret2
    exact⟨hb,.inl ⟨by decide,rfl⟩⟩
theorem Made.no{e0:Nat}{e:Ending}(h:Made w w' k n L e0 e)(h0:e0≠0):e= .returned (.tuple #[.pointer none,.int .i64 e0])∧Bl w w':=by
 obtain⟨hb,⟨_,h2⟩|⟨h1,_⟩⟩:=h
 ·exact⟨h2,hb⟩
 ·exact absurd h1 h0
theorem Made.ok{e:Ending}(h:Made w w' k n L 0 e):∃p v,e= .returned (.tuple #[Pq p,.int .i64 0])∧Rg w' p v k n L∧w.heap.size<=p∧(∀g,v.ownBlock=some g->w.heap.size<=g)∧Bl w w':=by
 obtain⟨hb,⟨h1,_⟩|⟨_,p,v,h2,h3,h4,h5⟩⟩:=h
 ·exact absurd rfl h1
 ·exact⟨p,v,h2,h3,h4,h5,hb⟩
theorem QkQ(w:World)(k:Int)(e0:Nat)(he:fe k 0 []=e0):Calls prog 44 #[.int .i64 k] w fun e w'=>Made w w' k 0 [] e0 e:=by
 have HF:Hid (Calls prog 94 #[.int .i64 k,.int .u64 0,.slice none 0 0] w fun e w'=>Made w w' k 0 [] e0 e) :=
  Qe3 w k 0 (by decide) none 0 0 0 [] ⟨rfl,fun h=>absurd h (Nz 0),(fun j v h=>by cases h),fun s hs=>by cases hs⟩ (fun _=>rfl) (Ln _) e0 he
 clear he
 by_cases h0:e0=0
 ·subst h0
  go_enter func44,ntmps44
  go_wp2_with (go_at_call 94;with_reducible refine HF.out.mono ?_;intro e w1 hM;obtain⟨p,v,rfl,h2,h3,h4,hb⟩:=hM.ok;clear hM)
  go_ret2
  exact⟨hb,.inr ⟨rfl,p,v,rfl,h2,h3,h4⟩⟩
 ·have H0:=Qc h0;clear h0
  go_enter func44,ntmps44
  go_wp2_with (go_at_call 94;with_reducible refine HF.out.mono ?_;intro e w1 hM;obtain⟨rfl,hb⟩:=hM.no H0.out;clear hM)
  go_ret2
  exact⟨hb,.inl ⟨H0.out,rfl⟩⟩
end Kp
end Go.Proofs.YtoblgjledefdbaaGreatDoor
