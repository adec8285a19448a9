/- Own work. -/
import Derived.Test.YtoblgjledefdbabGreatDoorQs30
set_option maxRecDepth 100000
set_option maxHeartbeats 2000000
namespace Go.Proofs.YtoblgjledefdbabGreatDoor
open Go.RowKit
attribute [local go_sem ↓] Go.wp_at_zero Go.wp_at_succ
open Go.Proofs.Tryz
section
open Pl (pw QE QA Yw)
open Cv (Row All Til But cov)
theorem QoV{c i a H:Nat}{D:LB}{x:BA}(h:H+a<=D.length)(j:Nat):(pkP c i a H D x).getD j ByteArray.empty=if j<a then D.getD (H+j) ByteArray.empty else if j=a then rs c i (dg c (Qw x)) (D.take H) else D.getD (H+(j-1)) ByteArray.empty:=by
 have lt:((D.drop H).take a).length=a:=by rw[Lv,LD];omega
 rw[pkP,La]
 split
 ·rename_i h1
  rw[LG (by omega),Ig h1,Nx,La]
 ·rw[LW (by omega),lt]
  split
  ·rename_i h2
   rw[h2,NK];rfl
  ·obtain⟨u,rfl⟩:∃u,j=a+(u+1):=⟨j-a-1,by omega⟩
   rw[show a+(u+1)-a=u+1 by omega,NQ,Nx,Nx,La]
   congr 2
theorem QpP(q:Nat):sb q≠q:=by unfold sb;split <;> omega
theorem Qm2(q:Nat):sb q/2=q/2:=by unfold sb;split <;> omega
section
variable {n i H:Nat} {A B:List (Nat×Nat)}
theorem Wy.top(h:Wy n i A H B):(H,i/2^H)∈Cv.dnL 41 0 n:=by rw[h.all];simp
theorem Wy.free(h:Wy n i A H B)(t:Nat):(t,i/2^t) ∉ wyB i H A B:=fun hm=>by
 rw[wyB,I3,I3] at hm
 rcases hm with hm|hm|hm
 ·obtain⟨g,_,e⟩:=List.mem_map.1 hm;injection e with e1 e2
  subst e1;exact QpP _ e2
 ·have:=h.no_left hm;simp at this
 ·have:=h.no_right hm;simp at this
theorem Wy.others(h:Wy n i A H B){b:Nat×Nat}(hb:b∈A++B):b∈Cv.dnL 41 0 n∧b≠(H,i/2^H):=by
 refine⟨?_,fun e=> ?_⟩
 ·rw[h.all]
  rcases List.mem_append.1 hb with hb|hb
  ·exact NH _ hb
  ·exact Id _ (LR _ hb)
 ·refine h.free H ?_
  rw[wyB,<-e];exact Id _ hb
theorem Wy.nodup(h:Wy n i A H B)(hn:n<=2^40):(wyB i H A B).Nodup:=by
 have hr:=Qoj n hn;refine List.nodup_append.2 ⟨?_,?_,fun a ha b hb e=> ?_⟩
 ·refine List.pairwise_iff_getElem.2 fun x y hx hy hxy e=> ?_
  simp only[bes,List.getElem_map,List.getElem_range] at e;injection e with e1 _
  omega
 ·have:=QcH hr;rw[h.all] at this;exact this.sublist ((List.Sublist.refl A).append (List.sublist_cons_self _ _))
 ·subst e;obtain⟨o1,o2⟩:=h.others hb;obtain⟨g,hg,e⟩:=List.mem_map.1 ha;have hg:=List.mem_range.1 hg;subst e;have hi:(sb (i/2^g)*2^g)/2^g=sb (i/2^g):=NO _ (LM g);have hH:(sb (i/2^g)*2^g)/2^H=i/2^H:=by
   rw[QaY (show g+1<=H by omega),QaY (i:=i) (show g+1<=H by omega)]
   congr 1
   rw[QaY (show g<=g+1 by omega),hi,QaY (i:=i) (show g<=g+1 by omega),show g+1-g=1 by omega,Nat.pow_one]
   exact Qm2 _
  exact o2 (Qg5 hr _ o1 _ h.top _ hi hH)
end
theorem Qlr{i H:Nat} : ∀b∈bes i H,(b.2+1)*2^b.1<=(i/2^H+1)*2^H:=by
 intro b hb;obtain⟨h,hh,rfl⟩:=List.mem_map.1 hb;have hh:=List.mem_range.1 hh;obtain⟨d,rfl⟩:∃d,H=h+1+d:=⟨H-h-1,by omega⟩
 have h1:(sb (i/2^h)+1)<=(i/2^(h+1)+1)*2:=by
  rw[<-Qai];generalize i/2^h=q;unfold sb
  split <;> omega
 have h2:(sb (i/2^h)+1)*2^h<=(i/2^(h+1)+1)*2^(h+1):=by
  rw[LO,<-L5,Nat.mul_right_comm];exact LT _ (by rw[<-LO];exact h1)
 refine Lt h2 ?_
 have h3:i/2^(h+1)+1<=(i/2^(h+1+d)+1)*2^d:=by
  have e:i/2^(h+1+d)=i/2^(h+1)/2^d:=by rw[LY,<-If]
  rw[e];exact Nat.lt_mul_of_div_lt (I1 _) (LM d)
 calc (i/2^(h+1)+1)*2^(h+1)<=(i/2^(h+1+d)+1)*2^d*2^(h+1):=LT _ h3
  _=(i/2^(h+1+d)+1)*2^(h+1+d):=by rw[L5,<-If,Nat.add_comm d]
theorem Wy.innX{n i H:Nat}{A B:List (Nat×Nat)}(h:Wy n i A H B)(hn:n<=2^40):∀b∈wyB i H A B,(b.2+1)*2^b.1<=n:=by
 have hall:=Qcm n hn;rw[h.all] at hall;intro b hb;rw[wyB,I3,I3] at hb
 rcases hb with hb|hb|hb
 ·exact Lt (Qlr b hb) (hall (H,i/2^H) (by simp))
 ·exact hall b (by simp[hb])
 ·exact hall b (by simp[hb])
section
variable {n i H:Nat} {A B:List (Nat×Nat)}
def knP(c:Nat)(i:Nat)(x:BA)(Bs:List (Nat×Nat))(D:LB):List He:=((0,i),dg c (Qw x))::Bs.zip D
theorem Qpk(h:Wy n i A H B)(c:Nat)(x:BA){D:LB}(hD:D.length=(wyB i H A B).length):∀g,g<=H->Tl c (knP c i x (wyB i H A B) D) g (i/2^g) (rs c i (dg c (Qw x)) (D.take g)):=by
 have hlen:=Qd0 i H A B;intro g
 induction g with
 | zero=>
  intro _;rw[ND,IR,Ij,rs];exact Nt ..
 | succ g ih=>
  intro hg;have hgD:g<D.length:=by omega
  have hsib:((g,sb (i/2^g)),D.getD g ByteArray.empty)∈knP c i x (wyB i H A B) D:=by
   refine LR _ ?_
   have:=Qd2 hD (show g<(wyB i H A B).length by omega)
   have e:(wyB i H A B).getD g (0,0)=(g,sb (i/2^g)):=by
    rw[wyB,Jy _ _ _ (by rw[UU];omega),La,bes,No,List.getElem?_range (by omega)];rfl
   rwa [e] at this
  have hhalf:i/2^(g+1)=i/2^g/2:=by rw[Qai]
  rw[LQ hgD,Qf4,Lv,Ir (by omega)]
  have hDg:D[g]=D.getD g ByteArray.empty:=by rw[La,Ld hgD];rfl
  rw[hDg];refine .inr ⟨fun u hu=> ?_,?_⟩
  ·rcases List.mem_cons.1 hu with e|hu
   ·injection e with e _
    injection e with e _
    cases e
   ·obtain⟨j,hj,e⟩:=OK hD hu;injection e with e _
    exact h.free (g+1) (by rw[e];exact QbB hj)
  ·have own:=ih (by omega)
   have oth:=Tl.at (c:=c) hsib;generalize i/2^g=q at *;rw[hhalf];unfold stT;unfold sb at oth
   by_cases hq:q%2=1
   ·rw[Lo hq] at oth ⊢;refine⟨_,_,?_,?_,rfl⟩
    ·rwa [show 2*(q/2)=q-1 by omega]
    ·rwa [show 2*(q/2)+1=q by omega]
   ·rw[Le hq] at oth ⊢;refine⟨_,_,?_,?_,rfl⟩
    ·rwa [show 2*(q/2)=q by omega]
    ·rwa [show 2*(q/2)+1=q+1 by omega]
theorem Qk6{k:Int}(h:Wy n i A H B)(hn:n<=2^40)(hk:1<=k∧k<=32){D:LB}(hf:fil k (H+A.length+B.length) D){V:Nat->BA}(x:BA)(hx:V i=x):Tre (clk k) n (wyB i H A B) D V (fun t=>t=i) (knP (clk k) i x (wyB i H A B) D) (pkP (clk k) i A.length H D x):=by
 have hlen:=Qd0 i H A B;have hD:D.length=(wyB i H A B).length:=by rw[hf.1,hlen];omega
 have hck:(clk k:Int)=k:=Ut hk.1 hk.2;have hnd:=h.nodup hn;have hin:=h.innX hn;have hfree:∀e∈(wyB i H A B).zip D,e.1≠(0,i):=fun e he e0=>by
  obtain⟨j,hj,rfl⟩:=OK hD he;refine h.free 0 ?_
  rw[ND,IR,<-e0];exact QbB hj
 have hlA:A.length+B.length+H=D.length:=by omega
 have hM:(Cv.dnL 41 0 n).length=A.length+(B.length+1):=by rw[h.all,Lh,LJ]
 refine Qk5 hnd (fun b hb=> ?_) hD (fun d hd=>by have:=hf.2 d hd;omega) (fun e he e' he' heq=> ?_) (fun e he=> ?_) (fun e he=>LR _ he) ?_ (fun j hj=> ?_)
 ·have:=hin b hb;have h1:b.2<n:=Qbs this;refine⟨Cv.pw40 (Lt (by have:=LT (pw b.1) (show 1<=b.2+1 by omega);rw[Na] at this;exact this) (Lt this hn)),by omega⟩
 ·rcases List.mem_cons.1 he with rfl|he <;> rcases List.mem_cons.1 he' with rfl|he'
  ·rfl
  ·exact absurd heq.symm (hfree e' he')
  ·exact absurd heq (hfree e he)
  ·obtain⟨a,ha,rfl⟩:=OK hD he;obtain⟨b,hb,rfl⟩:=OK hD he';have heq:(wyB i H A B).getD a (0,0)=(wyB i H A B).getD b (0,0):=heq;rw[La,Ld ha,La,Ld hb] at heq;obtain rfl:=QeD hnd ha hb heq
   rfl
 ·rcases List.mem_cons.1 he with rfl|he
  ·refine .inr ⟨fun hb=>h.free 0 ?_,rfl,rfl,?_⟩
   ·rw[ND,IR];exact hb
   ·show dg (clk k) (Qw x)=dg (clk k) (Qw (V i))
    rw[hx]
  ·exact .inl he
 ·rw[pkP,Lh,LJ,Lv,LD,LD,LD,hM];omega
 ·have hmem:∀t,t<A.length+B.length->((A++B).getD t (0,0),D.getD (H+t) ByteArray.empty)∈knP (clk k) i x (wyB i H A B) D:=fun t ht=>by
   have:=Qd2 hD (show H+t<(wyB i H A B).length by omega)
   have e:(wyB i H A B).getD (H+t) (0,0)=(A++B).getD t (0,0):=by
    rw[wyB];have:=UC (0,0) (bes i H) (A++B) t
    rwa [UU] at this
   rw[e] at this;exact LR _ this
  rw[hM] at hj;have hpk:=QoV (c:=clk k) (i:=i) (a:=A.length) (H:=H) (D:=D) (x:=x) (by omega) j
  rw[hpk,h.all]
  by_cases h1:j<A.length
  ·rw[Lo h1,Jy _ _ _ h1];have:=hmem j (by omega)
   rw[Jy _ _ _ h1] at this;exact Tl.at this
  ·rw[Le h1]
   by_cases h2:j=A.length
   ·rw[Lo h2,h2];have e:(A++(H,i/2^H)::B).getD A.length (0,0)=(H,i/2^H):=by
     have:=UC (0,0) A ((H,i/2^H)::B) 0
     rwa [IW] at this
    rw[e];exact Qpk h (clk k) x hD H (Lb _)
   ·rw[Le h2];obtain⟨t,rfl⟩:∃t,j=A.length+(t+1):=⟨j-A.length-1,by omega⟩
    have e:(A++(H,i/2^H)::B).getD (A.length+(t+1)) (0,0)=B.getD t (0,0):=by rw[UC,List.getD_cons_succ]
    have:=hmem (A.length+t) (by omega)
    rw[UC] at this;rw[e,show H+(A.length+(t+1)-1)=H+(A.length+t) by omega]
    exact Tl.at this
end
section
variable {k:Int} {m n:Nat} {D:LB}
end
end
def pA(x:Pq):BA:=match x with|some q=>q.1|none=>⟨#[]⟩
def pB'(x:Pq):BA:=match x with|some q=>q.2|none=>⟨#[]⟩
abbrev pv(x:Pq):Value := .agg #[.string (pA x),.string (pB' x),.bool x.isSome]
def P3(w:World)(g:Nat)(x:Pq):Prop:=w.heap[g]? = some (.cells #[.string (pA x),.string (pB' x),.bool x.isSome] 81 (0,0))
theorem P3.cells{w:World}{g:Nat}{x:Pq}(h:P3 w g x):w.cell? ⟨g,0,none⟩=some (.string (pA x))∧w.cell? ⟨g,1,none⟩=some (.string (pB' x))∧w.cell? ⟨g,2,none⟩=some (.bool x.isSome):=by
 refine⟨?_,?_,?_⟩
 ·rw[cell_of_row w g 0 _ _ (0,0) h];rfl
 ·rw[cell_of_row w g 1 _ _ (0,0) h];rfl
 ·rw[cell_of_row w g 2 _ _ (0,0) h];rfl
theorem P3.lt{w:World}{g:Nat}{x:Pq}(h:P3 w g x):g<w.heap.size:=(Array.getElem?_eq_some_iff.1 h).1
theorem P3.next{w W:World}{g:Nat}{x:Pq}(h:P3 w g x)(hb:Below w.heap.size w W):P3 W g x:=(hb.block g h.lt).trans h
theorem Qki(w:World)(x:Pq):∃W,w.alloc (.cells #[.string (pA x),.string (pB' x),.bool x.isSome] 81)=W∧P3 W w.heap.size x∧Below w.heap.size w W∧W.heap.size=w.heap.size+1 :=
 ⟨_,rfl,Lr w _,bal (Lc _ _) _,LK ..⟩
theorem QpK{a b:BA}(h:a≠b):pv (un a b)= .agg #[.string a,.string b,.bool true]:=by rw[un,Le h];rfl
theorem Qnp{a b:BA}(h:a=b):un a b=none:=Lo h
theorem QoR(w:World)(x y:Pq):Calls prog 108 #[pv x,pv y] w fun e w'=>e= .returned (pv (x.or y))∧Below w.heap.size w w':=by
 cases x with
 | none=>
  go_enter func108,ntmps108;go_wp2;refine LA (v:=pv y) (by simp[results,results108,go_sem]) rfl ⟨rfl,?_⟩
  exact bal (bal (bal (Lc _ _) _) _) _
 | some q=>
  go_enter func108,ntmps108;go_wp2;refine LA (v:=pv (some q)) (by simp[results,results108,go_sem]) rfl ⟨rfl,?_⟩
  exact bal (bal (bal (Lc _ _) _) _) _
theorem Qb0(w:World)(a b:BA):Calls prog 176 #[.string a,.string b] w fun e w'=>e= .returned (pv (un a b))∧Below w.heap.size w w':=by
 by_cases h:a=b
 ·subst h;rw[Qnp rfl]
  go_enter func176,ntmps176;go_wp2;refine LA (v:=pv none) (by simp[results,results176,go_sem,pA,pB']) rfl ⟨rfl,?_⟩
  exact bal (Lc _ _) _
 ·rw[QpK h];have hz:=OJ h;have hzb:=UE h;clear h
  go_enter func176,ntmps176;go_wp2;refine LA (v := .agg #[.string a,.string b,.bool true]) (by simp[results,results176,go_sem]) rfl ⟨rfl,?_⟩
  exact bal (Lc _ _) _
theorem QbH(w:World)(x y r:Pq)(hr:x.or y=r):Calls prog 108 #[pv x,pv y] w fun e w'=>e= .returned (pv r)∧Below w.heap.size w w':=by subst hr;exact QoR w x y
theorem J5(w:World)(a b:BA)(r:Pq)(hr:un a b=r):Calls prog 176 #[.string a,.string b] w fun e w'=>e= .returned (pv r)∧Below w.heap.size w w':=by subst hr;exact Qb0 w a b
abbrev wo(t:BA):Value := .iface 252 (.string t)
abbrev ba(d:BA):Value := .iface 294 (.string d)
theorem Qpq(t:BA)(w:World):(Instr.typeAssert (wo t) 250 252 true).run prog w= .ok (.tuple #[.string t,.bool true]) w:=by kernel_rfl
theorem Qpp(t:BA)(w:World):(Instr.typeAssert (ba t) 250 252 true).run prog w= .ok (.tuple #[.string ⟨#[]⟩,.bool false]) w:=by kernel_rfl
theorem QnX(t:BA)(w:World):(Instr.typeAssert (ba t) 250 294 true).run prog w= .ok (.tuple #[.string t,.bool true]) w:=by kernel_rfl
theorem QaX(w:World)(t:BA):Calls prog 177 #[wo t] w fun e w'=>e= .returned (.string t)∧Below w.heap.size w w':=by
 have h1:=Qpq t
 go_enter func177,ntmps177;go_wp2
 go_ret
 exact⟨rfl,Lc _ _⟩
theorem Qhd(w:World)(t:BA):Calls prog 177 #[ba t] w fun e w'=>e= .returned (.string ⟨#[]⟩)∧Below w.heap.size w w':=by
 have h1:=Qpp t;have h2:=QnX t
 go_enter func177,ntmps177;go_wp2
 go_ret
 exact⟨rfl,Lc _ _⟩
theorem J7(w:World)(ht:Tb w)(k:Int)(t:BA)(hs:t.size<4611686018427387904)(r:BA)(hr:dg (clk k) t=r):Calls prog 305 #[.string t,.int .i64 k] w fun e w'=>e= .returned (.string r)∧Below w.heap.size w w':=by
 have HO:=OC w ht k t hs r hr
 go_enter func305,ntmps305
 go_wp2_with (go_at_call 81;with_reducible refine HO.mono ?_;rintro e w1 ⟨rfl,hb1⟩)
 go_ret
 exact⟨rfl,hb1⟩
theorem Qca(w:World)(k:Int)(t:BA):Calls prog 307 #[.string t,.int .i64 k] w fun e w'=>e= .returned (.string t)∧Below w.heap.size w w':=by
 go_enter func307,ntmps307;go_wp2
 go_ret
 exact⟨rfl,Lc _ _⟩
abbrev putP(w:World)(g:Nat)(y:Pq):World:=((w.setCell ⟨g,0,none⟩ (.string (pA y))).setCell ⟨g,1,none⟩ (.string (pB' y))).setCell ⟨g,2,none⟩ (.bool y.isSome)
theorem P3.put{w:World}{g:Nat}{x:Pq}(h:P3 w g x)(y:Pq):P3 (putP w g y) g y:=Ln _ g 2 _ _ _ (Ln _ g 1 _ _ _ (Ln w g 0 _ _ _ h))
theorem JV(w:World)(g:Nat)(y:Pq):ChT (fun b=>b=g) w (putP w g y):=(((ChT.refl (fun b=>b=g) w).set g 0 _ rfl).set g 1 _ rfl).set g 2 _ rfl
theorem P3.fz{w:World}{g:Nat}{x:Pq}(h:P3 w g x):∀j,w.frozen? ⟨g,j,none⟩=false:=fun j=>frozen_of_row w g j _ _ h
theorem Qax(w:World)(ht:Tb w)(k:Int)(b off n cap:Nat)(P:LB)(hr:RdS w (some ⟨b,off,none⟩) b off n P)(h2:2<=n)(hn:n<=cap)(hnm:n<=1000)(hsz:∀s∈P,s.size<=32)(r:BA)(hq:Jn (P.getD 0 ByteArray.empty) (Qx (clk k) (P.drop 1))=r) :
  Calls prog 178 #[.int .i64 k,.slice (some ⟨b,off,none⟩) n cap] w fun e w'=>e= .returned (.string r)∧Below w.heap.size w w':=by
 have hl:=hr.hl;subst hl;obtain⟨x,hx⟩:∃x,P.getD 0 ByteArray.empty=x:=⟨_,rfl⟩;obtain⟨y,hy⟩:∃y,Qx (clk k) (P.drop 1)=y:=⟨_,rfl⟩;have hxs:x.size<=32:=by rw[<-hx];exact hsz _ (QI (by omega))
 have hys:y.size<=32:=by rw[<-hy];exact QW (Qn k) (Lb _) _ (fun s hs=>hsz s (Nm hs))
 have hd:=Ud (H:=1) (dc:=cap) hr hn (by omega) (fun h=>by cases h) (ax:=some ⟨b,off+1,none⟩) (by rw[Le (by omega)];simp[Addr.add_mid])
 have HB:Hid (∀W,Below w.heap.size w W->Calls prog 83 #[.int .i64 k,.slice (some ⟨b,off+1,none⟩) (P.length-1) (cap-1)] W fun e w'=>e= .returned (.string y)∧Below W.heap.size W w'):=fun W hb=>by
  have:=UT W (ht.next hb) k (some ⟨b,off+1,none⟩) b (off+1) _ (cap-1) _ (hd.1.next hb (Lb _)) (fun s hs=>Lt (hsz s (Nm hs)) (by decide)) (by rw[LD];omega) y hy
  rwa [LD] at this
 have HT:Hid (∀W,Calls prog 154 #[.string x,.string y] W fun e w'=>e= .returned (.string r)∧Below W.heap.size W w'):=fun W=>Qd6 W x y (by omega) (by omega) r (by rw[<-hx,<-hy];exact hq)
 have c0:∀W,Below w.heap.size w W->W.cell? ⟨b,off,none⟩=some (.string x):=fun W hb=>by
  have:=(hr.next hb (Lb _)).at (k:=0) (by omega)
  rw[hx] at this;exact this
 have C0:=Qc c0;have cc:=c0 w (Lc _ _);have hb0:=Lc w.heap.size w;have z1:(1:Int)<=(P.length:Int):=by omega
 have z2:(P.length:Int)<=(cap:Int):=by omega
 have z3:¬cap=1:=by omega
 have z4:(0:Int)<(P.length:Int):=by omega
 have z5:(P.length:Int)<=1000:=by omega
 clear hr hsz hq hx hy hd ht h2 hn hnm hxs hys c0
 go_enter func178,ntmps178
 go_upto_region 1 with (fail)
 go_region_with (first
  | (go_at_call 83;with_reducible refine(HB.out _ (Lc _ w).drew).mono ?_;rintro e w1 ⟨rfl,hb1⟩;have cc1:=C0.out _ (Qa (Lc _ w).drew hb1);have hb9:=Qa (Lc _ w).drew hb1)
  | (go_at_call 154;with_reducible refine(HT.out _).mono ?_;rintro e w2 ⟨rfl,hb2⟩))
 all_goals
  go_wp2
  go_ret
  exact⟨rfl,Qa hb9 hb2⟩
theorem Qls{c:Nat}{P Q:LB}(hl:P.length=Q.length){i:Nat}(hi:i+1<P.length):bg c (P.drop i) (Q.drop i)=(un (Jn ((P.drop i).getD 0 ByteArray.empty) (Qx c ((P.drop i).drop 1))) (Jn ((Q.drop i).getD 0 ByteArray.empty) (Qx c ((Q.drop i).drop 1)))).or (bg c (P.drop (i+1)) (Q.drop (i+1))):=by
 rw[LV (show i<P.length by omega),LV (show i<Q.length by omega),LV hi,LV (show i+1<Q.length by omega),bg]
 rfl
theorem Qn1{c:Nat}{P Q:LB}(hl:P.length=Q.length){i:Nat}(hi:P.length<=i+1):bg c (P.drop i) (Q.drop i)=none:=by
 by_cases h:i<P.length
 ·rw[LV h,Nc (show P.length<=i+1 by omega)]
  simp[bg]
 ·rw[Nc (show P.length<=i by omega)]
  simp[bg]
theorem aboveall_any (w:World) (ht:Tb w) (k:Int) (n:Nat) (pa:OA) (pb po pc:Nat) (P:LB) (hP:RdS w pa pb po P.length P) (hpc:P.length<=pc) (hpn:pa=none->pc=0) (qa:OA) (qb qo qc:Nat) (Q:LB) (hQ:RdS w qa qb qo P.length Q) (hqc:P.length<=qc) (hqn:qa=none->qc=0) (hm:P.length<=100) (hPs:∀s∈P,s.size<=32) (hQs:∀s∈Q,s.size<=32) (T:Pq) (hT:tp (clk k) n P Q=T) :
    Calls prog 109 #[.int .i64 k,.int .u64 n,.slice pa P.length pc,.slice qa P.length qc] w fun e w'=>e= .returned (pv T)∧Below w.heap.size w w':=by
  have hl:P.length=Q.length:=hQ.hl.symm;obtain⟨x,hx⟩:∃x,Qx (clk k) P=x:=⟨_,rfl⟩;obtain⟨y,hy⟩:∃y,Qx (clk k) Q=y:=⟨_,rfl⟩;obtain⟨x1,hx1⟩:∃x1,QO n x=x1:=⟨_,rfl⟩;obtain⟨y1,hy1⟩:∃y1,QO n y=y1:=⟨_,rfl⟩;have hxs:x.size<=32:=by rw[<-hx];exact QW (Qn k) (Lb _) _ hPs
  have hys:y.size<=32:=by rw[<-hy];exact QW (Qn k) (Lb _) _ hQs
  have HB1:Hid (∀W,Below w.heap.size w W->Calls prog 83 #[.int .i64 k,.slice pa P.length pc] W fun e w'=>e= .returned (.string x)∧Below W.heap.size W w'):=fun W hb=>UT W (ht.next hb) k pa pb po _ pc P (hP.next hb (Lb _)) (fun s hs=>Lt (hPs s hs) (by decide)) (by omega) x hx
  have HB2:Hid (∀W,Below w.heap.size w W->Calls prog 83 #[.int .i64 k,.slice qa P.length qc] W fun e w'=>e= .returned (.string y)∧Below W.heap.size W w'):=fun W hb=>UT W (ht.next hb) k qa qb qo _ qc Q (hQ.next hb (Lb _)) (fun s hs=>Lt (hQs s hs) (by decide)) (by omega) y hy
  have HR1:Hid (∀W,Calls prog 82 #[.int .u64 n,.string x] W fun e w'=>e= .returned (.string x1)∧Below W.heap.size W w'):=fun W=>Qaq W n x (by omega) x1 hx1
  have HR2:Hid (∀W,Calls prog 82 #[.int .u64 n,.string y] W fun e w'=>e= .returned (.string y1)∧Below W.heap.size W w'):=fun W=>Qaq W n y (by omega) y1 hy1
  have HE:Hid ((un x1 y1).or (bg (clk k) (P.drop 0) (Q.drop 0))=T):=by rw[<-hx1,<-hy1,<-hx,<-hy,Ia,Ia];exact hT
  have HS:Hid (∀i,i+1<P.length -> ∃s t:BA,bg (clk k) (P.drop i) (Q.drop i)=(un s t).or (bg (clk k) (P.drop (i+1)) (Q.drop (i+1)))∧pa=some ⟨pb,po,none⟩∧qa=some ⟨qb,qo,none⟩∧(∀W,Below w.heap.size w W->Calls prog 178 #[.int .i64 k,.slice (some ⟨pb,po+i,none⟩) (P.length-i) (pc-i)] W fun e w'=>e= .returned (.string s)∧Below W.heap.size W w')∧(∀W,Below w.heap.size w W->Calls prog 178 #[.int .i64 k,.slice (some ⟨qb,qo+i,none⟩) (P.length-i) (qc-i)] W fun e w'=>e= .returned (.string t)∧Below W.heap.size W w')):=fun i hi=>by
    have ea:=hP.ptr (by omega)
    have eb:=hQ.ptr (by omega)
    subst ea eb;refine⟨_,_,Qls hl hi,rfl,rfl,fun W hb=> ?_,fun W hb=> ?_⟩
    · have hd:=Ud (H:=i) (dc:=pc) (hP.next hb (Lb _)) hpc (by omega) (fun h=>by cases h) (ax:=some ⟨pb,po+i,none⟩) (by rw[Le (by omega)];simp[Addr.add_mid])
      have:=Qax W (ht.next hb) k pb (po+i) _ (pc-i) _ hd.1 (by rw[LD];omega) (by rw[LD];omega) (by rw[LD];omega) (fun s hs=>hPs s (Nm hs)) _ rfl
      rwa [LD] at this
    · have hQ':=hQ;rw[hl] at hQ';have hd:=Ud (H:=i) (dc:=qc) (hQ'.next hb (Lb _)) (by omega) (by omega) (fun h=>by cases h) (ax:=some ⟨qb,qo+i,none⟩) (by rw[Le (by omega)];simp[Addr.add_mid])
      have:=Qax W (ht.next hb) k qb (qo+i) _ (qc-i) _ hd.1 (by rw[LD];omega) (by rw[LD];omega) (by rw[LD];omega) (fun s hs=>hQs s (Nm hs)) _ rfl
      rwa [LD,<-hl] at this
  have HF:Hid (∀i,P.length<=i+1->bg (clk k) (P.drop i) (Q.drop i)=none):=fun i hi=>Qn1 hl hi
  have HC:Hid (P.length<=pc∧P.length<=qc):=⟨hpc,hqc⟩;have z5:(P.length:Int)<=100:=by omega
  have hb0:=bal (Lc w.heap.size w) (.cells #[.string ⟨#[]⟩,.string ⟨#[]⟩,.bool false] 81);clear hx hy hx1 hy1 hxs hys ht hP hQ hPs hQs hT hpc hqc hpn hqn hl
  go_enter func109,ntmps109
  go_upto_region 1 with (fail)
  go_upto_region 2 with (first
    | (go_at_call 83;with_reducible refine(HB1.out _ hb0).mono ?_;rintro e w1 ⟨rfl,hb1⟩)
    | (go_at_call 83;with_reducible refine(HB2.out _ (Qa (Qa hb0 hb1) hb2)).mono ?_;rintro e w3 ⟨rfl,hb3⟩)
    | (go_at_call 82;with_reducible refine(HR1.out _).mono ?_;rintro e w2 ⟨rfl,hb2⟩)
    | (go_at_call 82;with_reducible refine(HR2.out _).mono ?_;rintro e w4 ⟨rfl,hb4⟩)
    | (go_at_call 176;with_reducible refine(Qb0 _ _ _).mono ?_;rintro e w5 ⟨rfl,hb5⟩))
  obtain⟨F,hFe,h3,hb6,_⟩:=Qki w5 (un x1 y1)
  try rw[hFe]
  clear hFe;have hbF:=Qa (Qa (Qa (Qa (Qa (Qa hb0 hb1) hb2) hb3) hb4) hb5) hb6;have hR:F.heap[w.heap.size]? = some (.cells #[.string ⟨#[]⟩,.string ⟨#[]⟩,.bool false] 81 (0,0)):=by
    have:=Lr w (.cells #[.string ⟨#[]⟩,.string ⟨#[]⟩,.bool false] 81);exact((Qa (Qa (Qa (Qa (Qa hb1 hb2) hb3) hb4) hb5) hb6).block _ (by rw[LK];omega)).trans this
  obtain⟨g5,hg5⟩:∃g5,w5.heap.size=g5:=⟨_,rfl⟩;have hgw:w.heap.size<g5:=by
    have h1:=hb0.size;have h2:=hb1.size;have h3:=hb2.size;have h4:=hb3.size;have h5:=hb4.size;have h6:=hb5.size;rw[LK] at h2;omega
  rw[hg5] at h3
  try rw[hg5]
  clear hg5 hb0 hb1 hb2 hb3 hb4 hb5 hb6 HB1 HB2 HR1 HR2;have H3:=Qc h3;have HR:=Qc hR;clear h3 hR;go_wp2
  go_loopg [25] P.length (fun g i wr=> ∃(j:Nat) (X:Pq),g=P.length-j∧j<=P.length∧i= .int .i64 j∧Hid (X.or (bg (clk k) (P.drop j) (Q.drop j))=T)∧Hid (P3 wr g5 X)∧Hid (Below w.heap.size w wr∧wr.heap[w.heap.size]? = some (.cells #[.string ⟨#[]⟩,.string ⟨#[]⟩,.bool false] 81 (0,0))))
  case atStart=>go_light;exact⟨0,_,rfl,Lm _,rfl,HE,H3,Qc ⟨hbF,HR.out⟩⟩
  case round=>
    clear hbF HE H3 HR;obtain⟨j,X,rfl,hj,rfl,HE,H3,HW⟩:=hrel;have h3:=H3.out;obtain⟨c0,c1,c2⟩:=h3.cells;have fz:=h3.fz
    by_cases hlt:j+1<P.length
    · have hz:(j:Int)<(P.length:Int)-1:=by omega
      have z0:(0:Int)<=(j:Int):=Lf _;obtain⟨s,t,e1,rfl,rfl,HS1,HS2⟩:=HS.out j hlt;have HS1:=Qc HS1;have HS2:=Qc HS2;have z1:(j:Int)<=(P.length:Int):=by omega
      have z2:(P.length:Int)<=(pc:Int):=by have:=HC.out.1;omega
      have z3:(P.length:Int)<=(qc:Int):=by have:=HC.out.2;omega
      have z4:¬pc=j:=by have:=HC.out.1;omega
      have z6:¬qc=j:=by have:=HC.out.2;omega
      obtain⟨U,hU⟩:∃U,un s t=U:=⟨_,rfl⟩;obtain⟨Y,hY⟩:∃Y,X.or U=Y:=⟨_,rfl⟩;have HUn:Hid (∀W,Calls prog 176 #[.string s,.string t] W fun e w'=>e= .returned (pv U)∧Below W.heap.size W w'):=fun W=>J5 W s t U hU
      have HOr:Hid (∀W,Calls prog 108 #[pv X,pv U] W fun e w'=>e= .returned (pv Y)∧Below W.heap.size W w'):=fun W=>QbH W X U Y hY
      have HE2:Hid (Y.or (bg (clk k) (P.drop (j+1)) (Q.drop (j+1)))=T):=by
        have:=HE.out;rw[e1,hU] at this;rw[<-this,<-hY]
        show _=_
        cases X <;> rfl
      have hbw:=HW.out.1;have HK:Hid (∀W,Below wr.heap.size wr W->W.cell? ⟨g5,0,none⟩=some (.string (pA X))∧W.cell? ⟨g5,1,none⟩=some (.string (pB' X))∧W.cell? ⟨g5,2,none⟩=some (.bool X.isSome) ∧ ∀j,W.frozen? ⟨g5,j,none⟩=false):=fun W hb=>by
        have:=H3.out.next hb;obtain⟨a,b,c⟩:=this.cells;exact⟨a,b,c,this.fz⟩
      have hc9:=(Lc wr.heap.size wr).drew;clear e1 HE h3 hU hY
      go_upto_region 5 with (fail)
      go_region_with (first
        | (go_at_call 178;first
            | (with_reducible refine(HS1.out _ (Qa hbw hc9)).mono ?_)
            | (with_reducible refine(HS2.out _ (Qa hbw hc9)).mono ?_)
           rintro e w1 ⟨rfl,hb1⟩;replace hc9:=Qa hc9 hb1;obtain⟨c0,c1,c2,fz⟩:=HK.out _ hc9)
        | (go_at_call 176;with_reducible refine(HUn.out _).mono ?_;rintro e w3 ⟨rfl,hb3⟩;replace hc9:=Qa hc9 hb3;obtain⟨c0,c1,c2,fz⟩:=HK.out _ hc9)
        | (go_at_call 108;with_reducible refine(HOr.out _).mono ?_;rintro e w4 ⟨rfl,hb4⟩;replace hc9:=Qa hc9 hb4;obtain⟨c0,c1,c2,fz⟩:=HK.out _ hc9))
      all_goals
        have hp:=(H3.out.next hc9).put Y;have hch:=JV w4 g5 Y;have HP:=Qc hp;have HCh:=Qc hch;clear hp hch c0 c1 c2 fz;go_wp2
        go_roundg (P.length-(j+1))
        case rel=>go_light;exact⟨j+1,Y,rfl,by omega,by go_num,HE2,HP,Qc ⟨(Qa hbw hc9).trans (HCh.out.below (by rintro b rfl;omega)),(HCh.out.block _ (by omega)).trans ((hc9.block _ (by have:=(Array.getElem?_eq_some_iff.1 HW.out.2).1;exact this)).trans HW.out.2)⟩⟩
        case measure=>go_light;omega
    · have hz:¬(j:Int)<(P.length:Int)-1:=by omega
      have e1:=HF.out j (by omega)
      have e2:X=T:=by
        have:=HE.out;rw[e1] at this;rw[<-this]
        cases X <;> rfl
      subst e2;have hW:=HW.out;have r0:wr.cell? ⟨w.heap.size,0,none⟩=some (.string ⟨#[]⟩):=by rw[cell_of_row wr w.heap.size 0 _ _ (0,0) hW.2];rfl
      have r1:wr.cell? ⟨w.heap.size,1,none⟩=some (.string ⟨#[]⟩):=by rw[cell_of_row wr w.heap.size 1 _ _ (0,0) hW.2];rfl
      have r2:wr.cell? ⟨w.heap.size,2,none⟩=some (.bool false):=by rw[cell_of_row wr w.heap.size 2 _ _ (0,0) hW.2];rfl
      have rf:∀j,wr.frozen? ⟨w.heap.size,j,none⟩=false:=fun j=>frozen_of_row wr w.heap.size j _ _ hW.2
      have hp:=P3.put (x:=none) (show P3 wr w.heap.size none from hW.2) X
      have hch:=JV wr w.heap.size X;obtain⟨d0,d1,d2⟩:=hp.cells;clear e1 HE HF HS hp;go_wp2;refine LA (v:=pv X) (by simp[results,results109,go_sem,d0,d1,d2]) rfl ⟨rfl,?_⟩
      exact hW.1.trans (hch.below (by rintro b rfl;omega))
def ni(s:Nat):Value := .int .i64 s
theorem Qj2{s s':Nat}(e:ni s=ni s'):s=s':=by
 unfold ni at e;injection e with _ e
 omega
def Mi(w:World)(b:Nat)(f:Int->Nat->Option Nat):Prop :=
 ∃es clock,w.heap[b]? = some (.map es clock)∧(∀e∈es.toList,∃h k s,US h k∧e.key=kv h k∧e.val=ni s)∧es.toList.Pairwise (fun x y=>x.key≠y.key) ∧
  ∀h k s,US h k->(f h k=some s ↔ ∃e∈es.toList,e.key=kv h k∧e.val=ni s)
theorem Mi.lt{w:World}{b:Nat}{f:Int->Nat->Option Nat}(h:Mi w b f):b<w.heap.size:=by
 obtain⟨es,c,h1,_⟩:=h;exact(Array.getElem?_eq_some_iff.1 h1).1
theorem Mi.same{w W:World}{b:Nat}{f:Int->Nat->Option Nat}(h:Mi w b f)(hb:W.heap[b]? = w.heap[b]?):Mi W b f:=by
 obtain⟨es,c,h1,h2⟩:=h;exact⟨es,c,hb.trans h1,h2⟩
theorem QoD(w:World):Mi (w.alloc (.map #[] 0)) w.heap.size (fun _ _=>none):=by
 refine⟨#[],0,(MapKept.heap_alloc w _).1,?_,?_,?_⟩
 ·intro e he;simp at he
 ·simp
 ·intro h k s _;simp
theorem Mi.find{w:World}{b:Nat}{f:Int->Nat->Option Nat}(hm:Mi w b f){h:Int}{k:Nat}(hf:US h k) :
  ∃es clock,w.heap[b]? = some (.map es clock)∧((f h k=none∧(Instr.findKey 131 (kv h k) es.toList).run prog w= .ok none w ∧ ∀e∈es.toList,e.key≠kv h k) ∨
   ∃j e s,f h k=some s∧(Instr.findKey 131 (kv h k) es.toList).run prog w= .ok (some (j,ni s)) w∧es.toList[j]? = some e∧e.key=kv h k):=by
 obtain⟨es,c,h1,h2,h3,h4⟩:=hm;obtain⟨l,hl⟩:=U3 hf;refine⟨es,c,h1,?_⟩
 rcases Tryz.keyed.find w hl es.toList (fun e he=>by obtain⟨h',k',s,hf',e1,_⟩:=h2 e he;rw[e1];exact U3 hf') with ⟨r1,r2⟩|⟨j,e,r1,r2,r3⟩
 ·refine .inl ⟨?_,r1,r2⟩
  cases hx:f h k with
  | none=>rfl
  | some s=>
   obtain⟨e,he,ek,_⟩:=(h4 h k s hf).1 hx;exact absurd ek (r2 e he)
 ·have hm:=Nk r2;obtain⟨h',k',s,hf',e1,e2⟩:=h2 e hm;rw[e2] at r1;exact .inr ⟨j,e,s,(h4 h k s hf).2 ⟨e,hm,r3,e2⟩,r1,r2,r3⟩
theorem Mi.look{w:World}{b:Nat}{f:Int->Nat->Option Nat}(hm:Mi w b f){h:Int}{k:Nat}(hf:US h k)(c:Bool) :
  (Instr.lookup 128 (.map (some b)) (kv h k) c).run prog w= .ok (if c then .tuple #[ni ((f h k).getD 0),.bool (f h k).isSome] else ni ((f h k).getD 0)) w:=by
 obtain⟨l,hl⟩:=U3 hf;obtain⟨es,cl,h1,⟨e0,e1,_⟩|⟨j,e,s,e0,e1,_⟩⟩:=hm.find hf
 ·rw[e0];simp[Instr.lookup,run_underlying underlying128,MapKept.run_getObj_map h1,Tryz.keyed.check w _ hl,e1,Result.andThen]
  rfl
 ·rw[e0];simp[Instr.lookup,run_underlying underlying128,MapKept.run_getObj_map h1,Tryz.keyed.check w _ hl,e1,Result.andThen]
def puti(f:Int->Nat->Option Nat)(h:Int)(k:Nat)(s:Nat):Int->Nat->Option Nat:=fun h' k'=>if h'=h∧k'=k then some s else f h' k'
theorem Mi.write{w:World}{b:Nat}{f:Int->Nat->Option Nat}(hm:Mi w b f){h:Int}{k:Nat}(hf:US h k)(s:Nat) :
  ∃es clock,(Instr.mapUpdate 128 (.map (some b)) (kv h k) (ni s)).run prog w= .ok () (ChangeMaps.setBlock w b (.map es clock))∧Mi (ChangeMaps.setBlock w b (.map es clock)) b (puti f h k s):=by
 have hb:=hm.lt;obtain⟨l,hl⟩:=U3 hf;have sz:∀o,(ChangeMaps.setBlock w b o).heap[b]? = some o:=fun o=>by simp[ChangeMaps.setBlock,hb]
 obtain⟨es,cl,h1,hor⟩:=hm.find hf;obtain⟨es',cl',g1,g2,g3,g4⟩:=hm;rw[h1] at g1;injection g1 with g1
 injection g1 with g1 g1'
 subst g1 g1'
 rcases hor with ⟨e0,e1,e2⟩|⟨j,e,s0,e0,e1,e2,e3⟩
 ·refine⟨es.push ⟨kv h k,ni s,cl⟩,cl+1,?_,_,_,sz _,?_,?_,?_⟩
  ·simp[Instr.mapUpdate,run_underlying underlying128,MapKept.run_getObj_map h1,Tryz.keyed.check w false hl,e1,MapKept.run_setObj_map _ h1,Result.andThen,ChangeMaps.setBlock]
  ·intro x hx;simp only[Array.toList_push,List.mem_append,List.mem_singleton] at hx
   rcases hx with hx|rfl
   ·exact g2 x hx
   ·exact⟨h,k,s,hf,rfl,rfl⟩
  ·rw[Array.toList_push,List.pairwise_append];refine⟨g3,by simp,fun x hx y hy=> ?_⟩
   simp only[List.mem_singleton] at hy;subst hy;exact e2 x hx
  ·intro h' k' s' hf';simp only[puti,Array.toList_push,List.mem_append,List.mem_singleton]
   by_cases hq:h'=h∧k'=k
   ·obtain⟨rfl,rfl⟩:=hq;rw[Lo ⟨rfl,rfl⟩];refine⟨fun hs=> ?_,?_⟩
    ·injection hs with hs
     subst hs;exact⟨_,.inr rfl,rfl,rfl⟩
    ·rintro⟨x,hx|rfl,ex,ey⟩
     ·exact absurd ex (e2 x hx)
     ·rw[Qj2 ey]
   ·rw[Le hq,g4 h' k' s' hf'];refine⟨fun⟨x,hx,r⟩=>⟨x,.inl hx,r⟩,?_⟩
    rintro⟨x,hx|rfl,ex,ey⟩
    ·exact⟨x,hx,ex,ey⟩
    ·obtain⟨q1,q2⟩:=Qaj ex;exact absurd ⟨q1.symm,q2.symm⟩ hq
 ·have hj:es[j]? = some e:=by simpa using e2
  have hlist:(es.modify j (fun e'=> { e' with key:=kv h k,val:=ni s })).toList=es.toList.set j { e with key:=kv h k,val:=ni s } := by rw[Array.toList_modify,ChangeMaps.modify_eq_set _ _ _ _ e2]
  have hjl:j<es.toList.length:=(List.getElem?_eq_some_iff.1 e2).1
  have hne:∀i x,es.toList[i]? = some x->i≠j->x.key≠kv h k:=fun i x hx hij=>by
   have hil:=(List.getElem?_eq_some_iff.1 hx).1
   have pw:=List.pairwise_iff_getElem.1 g3;have ei:es.toList[i]=x:=(List.getElem?_eq_some_iff.1 hx).2
   have ej:es.toList[j]=e:=(List.getElem?_eq_some_iff.1 e2).2
   rcases Nat.lt_or_gt_of_ne hij with hlt|hlt
   ·have:=pw i j hil hjl hlt;rw[ei,ej,e3] at this;exact this
   ·have:=pw j i hjl hil hlt;rw[ei,ej,e3] at this;exact fun q=>this q.symm
  have who:∀x,x∈es.toList.set j { e with key:=kv h k,val:=ni s } ↔ x = { e with key:=kv h k,val:=ni s } ∨ (x∈es.toList∧x.key≠kv h k):=by
   intro x
   constructor
   ·intro hx;obtain⟨i,hi,ex⟩:=L8 hx;rw[IZ] at ex
    split at ex
    ·exact .inl ex.symm
    ·rename_i hn
     have hi':i<es.toList.length:=by simpa using hi
     exact .inr ⟨ex ▸ LN hi',hne i x (by rw[Ld hi',ex]) (fun q=>hn q.symm)⟩
   ·rintro(rfl|⟨hx,hk⟩)
    ·exact List.mem_iff_getElem.2 ⟨j,by simpa using hjl,by simp⟩
    ·obtain⟨i,hi,ex⟩:=L8 hx;refine List.mem_iff_getElem.2 ⟨i,by simpa using hi,?_⟩
     rw[List.getElem_set_ne]
     ·exact ex
     ·rintro rfl
      apply hk
      rw[<-ex,(List.getElem?_eq_some_iff.1 e2).2,e3]
  refine⟨es.modify j (fun e'=> { e' with key:=kv h k,val:=ni s }),cl,?_,_,_,sz _,?_,?_,?_⟩
  ·simp[Instr.mapUpdate,run_underlying underlying128,MapKept.run_getObj_map h1,Tryz.keyed.check w false hl,e1,hj,e3,Tryz.keyed.stays w hl,MapKept.run_setObj_map _ h1,Result.andThen,ChangeMaps.setBlock]
  ·intro x hx;rw[hlist] at hx
   rcases(who x).1 hx with rfl|⟨hx,_⟩
   ·exact⟨h,k,s,hf,rfl,rfl⟩
   ·exact g2 x hx
  ·rw[hlist,Wi];have pw:=List.pairwise_iff_getElem.1 g3;have ky:∀i (hi:i<(es.toList.set j { e with key:=kv h k,val:=ni s }).length),((es.toList.set j { e with key:=kv h k,val:=ni s })[i]).key=(es.toList[i]'(by simpa using hi)).key:=by
    intro i hi;rw[IZ]
    split
    ·rename_i q
     subst q;rw[(List.getElem?_eq_some_iff.1 e2).2,e3]
    ·rfl
   intro i i' hi hi' hlt;rw[ky i hi,ky i' hi'];exact pw i i' _ _ hlt
  ·intro h' k' s' hf';rw[hlist]
   by_cases hq:h'=h∧k'=k
   ·obtain⟨rfl,rfl⟩:=hq;rw[puti,Lo ⟨rfl,rfl⟩];refine⟨fun hs=> ?_,?_⟩
    ·injection hs with hs
     subst hs;exact⟨_,(who _).2 (.inl rfl),rfl,rfl⟩
    ·rintro⟨x,hx,ex,ey⟩
     rcases(who x).1 hx with rfl|⟨_,hk⟩
     ·rw[Qj2 ey]
     ·exact absurd ex hk
   ·rw[puti,Le hq,g4 h' k' s' hf']
    constructor
    ·rintro⟨x,hx,ex,ey⟩;refine⟨x,(who x).2 (.inr ⟨hx,fun q=>hq ?_⟩),ex,ey⟩
     obtain⟨q1,q2⟩:=Qaj (ex.symm.trans q);exact⟨q1,q2⟩
    ·rintro⟨x,hx,ex,ey⟩
     rcases(who x).1 hx with rfl|⟨hx,_⟩
     ·obtain⟨q1,q2⟩:=Qaj ex;exact absurd ⟨q1.symm,q2.symm⟩ hq
     ·exact⟨x,hx,ex,ey⟩
theorem Qa3(w:World)(ao:OA)(len cap h:Nat)(hh:h<=40)(hm:len<=8796093022208)(m:Nat)(hq:len/2^h=m) :
  Calls prog 162 #[.slice ao len cap,.int .i64 h] w fun e w'=>e= .returned (.int .u64 m)∧w'=w:=by
 have h0:(0:Int)<=(h:Int):=by omega
 have h1:(h:Int)<64:=by omega
 have e0:IntKind.u64.wrap (len:Int)=(len:Int):=Yz _ (by omega) (by omega)
 have e1:(len:Int)/2^h=(m:Int):=by rw[<-hq];simp
 clear hm hh hq
 go_enter func162,ntmps162;go_wp2
 go_ret
 exact⟨rfl,rfl⟩
theorem QcA(k:Int)(ao:OA)(b off len cap:Nat)(L:LB)(hsz:∀s∈L,s.size<=140737488351232)(hmx:len<=8796093022208):∀h:Nat,h<=40 -> ∀(i:Nat) (w:World) (r:BA),Tb w->RdS w ao b off len L->(i+1)*2^h<=len->nd (clk k) L h i=r ->
  Calls prog 163 #[.int .i64 k,.slice ao len cap,.agg #[.int .i64 h,.int .u64 i]] w fun e w'=>e= .returned (.string r)∧Below w.heap.size w w':=by
 intro h
 induction h with
 | zero=>
  intro _ i w r ht hr hw hq;rw[ND,Nr] at hw;have hi:(i:Int)<(len:Int):=by omega
  have hi0:(0:Int)<=(i:Int):=by omega
  obtain rfl:=hr.ptr (by omega)
  have HL:Hid (∀W,Below w.heap.size w W->Calls prog 55 #[.int .i64 k,.string (L.getD i ByteArray.empty)] W fun e w'=>e= .returned (.string r)∧Below W.heap.size W w'):=fun W hb=>JB W (ht.next hb) k _ (Ib (hsz _ (QI (by rw[hr.hl];omega))) (by decide)) r hq
  have hb:=Lc w.heap.size w;have ci:=fun o=>((hr.next (bal hb o) (Lb _)).at (k:=i) (by omega))
  generalize L.getD i ByteArray.empty=s at *;rw[show((0:Nat):Int)=0 from rfl]
  clear hq ht hr hw hmx hsz
  go_enter func163,ntmps163
  go_wp2_with (go_at_call 55;with_reducible refine(HL.out _ (bal hb _)).mono ?_;rintro e w1 ⟨rfl,hb1⟩)
  go_ret
  exact⟨rfl,Qa (bal hb _) hb1⟩
 | succ h ih=>
  intro hh i w r ht hr hw hq;have hp:2^(h+1)=2*2^h:=by rw[LO];omega
  have h1:(2*i+1+1)*2^h<=len:=by
   rw[hp] at hw;rw[show 2*i+1+1=(i+1)*2 by omega,L5];exact hw
  have h2:(2*i+1)*2^h<=len:=Lt (LT _ (by omega)) h1
  have hi:i<len:=by
   have:=LM (h+1);have:(i+1)*1<=(i+1)*2^(h+1):=IG _ this;omega
  obtain⟨x,hx⟩:∃x,nd (clk k) L h (2*i)=x:=⟨_,rfl⟩;obtain⟨y,hy⟩:∃y,nd (clk k) L h (2*i+1)=y:=⟨_,rfl⟩;have zx:=QG (Qn k) L h (2*i);have zy:=QG (Qn k) L h (2*i+1);have hc:=Qn k;rw[nd,hx,hy] at hq;rw[hx] at zx;rw[hy] at zy;obtain⟨j,hj⟩:∃j,2*i=j:=⟨_,rfl⟩;have e1:IntKind.u64.wrap (2*(i:Int))=(j:Int):=by rw[Yz _ (by omega) (by omega)];omega
  have e2:IntKind.u64.wrap ((j:Int)+1)=((j:Int)+1):=Yz _ (by omega) (by omega)
  have e3:IntKind.i64.wrap (h:Int)=(h:Int):=by simp[IntKind.wrap,IntKind.signed,IntKind.bits];omega
  rw[hj] at h1 h2 hx hy;have H1:Hid (∀W,Below w.heap.size w W->Calls prog 163 #[.int .i64 k,.slice ao len cap,.agg #[.int .i64 h,.int .u64 j]] W fun e w'=>e= .returned (.string x)∧Below W.heap.size W w'):=fun W hb=>ih (by omega) j W x (ht.next hb) (hr.next hb (Lb _)) h2 hx
  have H2:Hid (∀W,Below w.heap.size w W->Calls prog 163 #[.int .i64 k,.slice ao len cap,.agg #[.int .i64 h,.int .u64 ((j:Int)+1)]] W fun e w'=>e= .returned (.string y)∧Below W.heap.size W w'):=fun W hb=>by
   have:=ih (by omega) (j+1) W y (ht.next hb) (hr.next hb (Lb _)) h1 hy
   rwa [show((j+1:Nat):Int)=(j:Int)+1 from rfl] at this
  have H3:Hid (∀W,Below w.heap.size w W->Calls prog 155 #[.int .i64 k,.string x,.string y] W fun e w'=>e= .returned (.string r)∧Below W.heap.size W w'):=fun W hb=>YU W (ht.next hb) k x y (by omega) (by omega) r hq
  have hb:=Lc w.heap.size w;have hne:¬((h:Int)+1=0):=by omega
  rw[show((h+1:Nat):Int)=(h:Int)+1 from rfl]
  clear ih hh hw hq hp h1 h2 hi hx hy zx zy hc hj ht hr hmx hsz
  go_enter func163,ntmps163
  go_wp2_with (first
   | (go_at_call 163;with_reducible refine(H1.out _ (bal hb _)).mono ?_;rintro e w1 ⟨rfl,hb1⟩;have c0:=hb1.cell (p:=⟨w.heap.size,0,none⟩) (by simp);have c1:=hb1.cell (p:=⟨w.heap.size,1,none⟩) (by simp);rw[Nz] at c0 c1;replace hb:=Qa (bal hb _) hb1;clear hb1)
   | (go_at_call 163;with_reducible refine(H2.out _ hb).mono ?_;rintro e w2 ⟨rfl,hb2⟩;clear c0 c1;replace hb:=Qa hb hb2;clear hb2)
   | (go_at_call 155;with_reducible refine(H3.out _ hb).mono ?_;rintro e w3 ⟨rfl,hb3⟩;replace hb:=Qa hb hb3;clear hb3))
  go_ret
  exact⟨rfl,hb⟩
theorem Qk7(w:World)(ht:Tb w)(k:Int)(ao:OA)(b off len cap:Nat)(L:LB)(hr:RdS w ao b off len L)(hsz:∀s∈L,s.size<=140737488351232)(hmx:len<=8796093022208)(h i:Nat)(hh:h<=40)(hi:(i+1)*2^h<=len)(r:BA)(hq:nd (clk k) L h i=r) :
  Calls prog 298 #[.int .i64 k,.slice ao len cap,.agg #[.int .i64 h,.int .u64 i]] w fun e w'=>e= .returned (.tuple #[.string r,.bool true])∧Below w.heap.size w w':=by
 obtain⟨m,hm⟩:∃m,len/2^h=m:=⟨_,rfl⟩;have hlt:=Qld.2 hi;rw[hm] at hlt;have HB:=fun W=>Qa3 W ao len cap h hh hmx m hm
 have HN:Hid (∀W,Below w.heap.size w W->Calls prog 163 #[.int .i64 k,.slice ao len cap,.agg #[.int .i64 h,.int .u64 i]] W fun e w'=>e= .returned (.string r)∧Below W.heap.size W w'):=fun W hb=>QcA k ao b off len cap L hsz hmx h hh i W r (ht.next hb) (hr.next hb (Lb _)) hi hq
 have hb:=Lc w.heap.size w;have t1:¬((h:Int)<0):=by omega
 have t2:¬((40:Int)<(h:Int)):=by omega
 have t3:¬((m:Int)<=(i:Int)):=by omega
 clear hm hlt hi hh hq hr ht hsz hmx
 go_enter func298,ntmps298;go_wp2
 go_quiet ((go_at_call 162;refine Calls.quiet_of_same (HB _)))
 go_wp2_with (go_at_call 163;with_reducible refine(HN.out _ (Qi (bal hb _) _)).mono ?_;rintro e w1 ⟨rfl,hb1⟩)
 go_ret2
 exact⟨rfl,Qa (Qi (bal hb _) _) hb1⟩
theorem Qkn(w:World)(ht:Tb w)(k:Int)(ao:OA)(b off len cap:Nat)(L:LB)(hr:RdS w ao b off len L)(hsz:∀s∈L,s.size<=140737488351232)(hmx:len<=8796093022208)(P:LB)(q:Nat)(hq:q=41)(hP:Hid (pks (clk k) L q=P)) :
  Calls prog 97 #[.int .i64 k,.slice ao len cap] w fun e w'=> ∃v,e= .returned v∧Qg w' w.heap.size v P∧Below w.heap.size w w':=by
 have HT:Hid (Tb w∧RdS w ao b off len L∧(∀s∈L,s.size<=140737488351232)∧len<=8796093022208):=⟨ht,hr,hsz,hmx⟩;have hb:=Lc w.heap.size w;have HS:Hid ([]++pks (clk k) L 41=P):=by rw[<-hq];exact hP
 have hPl:P.length<=41:=by rw[<-hP.out,<-hq];exact OQ (clk k) L q
 have HPl:=Qc hPl;clear ht hr hsz hmx hq hP hPl
 go_enter func97,ntmps97;go_wp2
 go_loopg [5,6] 41 (fun g v i wr=> ∃(j:Nat) (A:LB),j=g∧i= .int .i64 ((j:Int)-1)∧j<=41∧A.length<=41∧Hid (A++pks (clk k) L j=P)∧Qg wr w.heap.size v A∧Below w.heap.size w wr)
 case atStart=>go_light;exact⟨41,[],rfl,by go_num,Lb _,by simp,HS.out,Uc w _,hb⟩
 case round=>
  clear hb;obtain⟨j,A,hg,rfl,hj,hA,HE,ho,hb⟩:=hrel;subst hg
  cases j with
  | zero=>
   have hz:¬((0:Int) <= -1):=by decide
   rw[show((0:Nat):Int)-1 = -1 from rfl]
   have HF:Hid (A=P):=by
    have:=HE.out;rw[pks,L7] at this;exact this
   clear HE HT;go_wp2
   go_ret
   exact⟨_,rfl,by rw[<-HF.out];exact ho,hb⟩
  | succ j=>
   have e1:((j+1:Nat):Int)-1=(j:Int):=by omega
   have hz:(0:Int)<=(j:Int):=by omega
   rw[e1];obtain⟨m,hm⟩:∃m,len/2^j=m:=⟨_,rfl⟩;have hml:m<=len:=by rw[<-hm];exact NI _ _
   have HBk:Hid (∀W,Calls prog 162 #[.slice ao len cap,.int .i64 j] W fun e w'=>e= .returned (.int .u64 m)∧w'=W):=fun W=>Qa3 W ao len cap j (by omega) HT.out.2.2.2 m hm
   have HO:Hid (Qg wr w.heap.size _ A):=ho;have hL:=HT.out.2.1.hl
   by_cases hodd:m%2=1
   ·obtain⟨x,hx⟩:∃x,nd (clk k) L j (m-1)=x:=⟨_,rfl⟩;have HE2:Hid ((A++[x])++pks (clk k) L j=P):=by
     show _=_
     rw[<-HE.out,QaT (by rw[hL,hm];exact hodd),hL,hm,hx];simp
    have zx:x.size<=9223372036854775807:=by rw[<-hx,QG (Qn k)];have:=Qn k;omega
    have hlen2:A.length+1<=41:=by
     have:=LZ List.length HE2.out;have h41:=HPl.out;simp at *;omega
    obtain⟨p,rfl⟩:∃p,m=p+1:=⟨m-1,by omega⟩
    rw[Ny] at hx;have HN:Hid (∀W,Below w.heap.size w W->Calls prog 163 #[.int .i64 k,.slice ao len cap,.agg #[.int .i64 j,.int .u64 p]] W fun e w'=>e= .returned (.string x)∧Below W.heap.size W w'):=fun W hb=>by
     obtain⟨t1,t2,t3,t4⟩:=HT.out;exact QcA k ao b off len cap L t3 t4 j (by omega) p W x (t1.next hb) (t2.next hb (Lb _)) (Qld.1 (by omega)) hx
    have hp:IntKind.u64.wrap (p:Int)=(p:Int):=Yz _ (by omega) (by have:=HT.out.2.2.2;omega)
    have ho2:((p:Int)+1)%2=1:=by omega
    have HB0:Hid (Below w.heap.size w wr):=hb;have HL2:Hid (A.length+1<=41):=hlen2;have HZ:Hid (x.size<=9223372036854775807):=zx;clear HE hx hm hml hodd zx hL ho hlen2 hA
    go_wp2_with (first
     | (go_at_call 162;with_reducible refine(HBk.out _).mono ?_;rintro e w1 ⟨rfl,rfl⟩)
     | (go_at_call 163;with_reducible refine(HN.out _ hb).mono ?_;rintro e w2 ⟨rfl,hb2⟩)
     | (at_builtin;refine QM _ rfl _ _ rfl w.heap.size _ A rfl (Q4 (Qv HO.out hb2 (Lb _)) _) (Zp w2.heap.size) w2.heap.size 0 1 [x] rfl (YT w2 x HZ.out) (fun h=>by cases h) ?c1 ?c2 ?_))
    case c1=>have:=HL2.out;simp;omega
    case c2=>have:=(Qa hb hb2).size;simp;omega
    intro v2 w3 h3 hb3;have HX:Hid (Qg w3 w.heap.size v2 (A++[x])∧Below w.heap.size w w3):=⟨h3,(bal (Qa hb hb2) _).trans hb3⟩;clear h3 hb3 hb2;go_wp2
    go_roundg j
    case rel=>go_light;exact⟨j,A++[x],rfl,by go_num,by omega,by have:=HL2.out;simp;omega,HE2,HX.out.1,HX.out.2⟩
    case measure=>go_light;omega
   ·have ho2:¬((m:Int)%2=1):=by omega
    have HE2:Hid (A++pks (clk k) L j=P):=by
     show _=_
     rw[<-HE.out,OR (by rw[hL,hm];exact hodd)]
    clear HE hm hml hodd hL ho
    go_wp2_with (go_at_call 162;with_reducible refine(HBk.out _).mono ?_;rintro e w1 ⟨rfl,rfl⟩)
    go_roundg j
    case rel=>go_light;exact⟨j,A,rfl,by go_num,by omega,hA,HE2,HO.out,hb⟩
    case measure=>go_light;omega
theorem Qh6(w:World)(ht:Tb w)(k:Int)(ao:OA)(b off len cap:Nat)(L:LB)(hr:RdS w ao b off len L)(hsz:∀s∈L,s.size<=140737488351232)(hmx:len<=8796093022208)(P:LB)(hP:Hid (pks (clk k) L 41=P)) :
  Calls prog 97 #[.int .i64 k,.slice ao len cap] w fun e w'=> ∃v,e= .returned v∧Qg w' w.heap.size v P∧Below w.heap.size w w':=Qkn w ht k ao b off len cap L hr hsz hmx P 41 rfl hP
theorem Qh8(w:World)(k:Int)(hk:k<1∨32<k)(ao:OA)(len cap n:Nat) :
  Calls prog 56 #[.int .i64 k,.slice ao len cap,.int .u64 n] w fun e w'=>e= .returned (.tuple #[.agg #[.int .u64 0,.string ⟨#[]⟩],.int .i64 70])∧Below w.heap.size w w':=by
 have HC:=fun W=>QB W k
 rw[Qod hk] at HC;have hb:=Lc w.heap.size w;clear hk
 go_enter func56,ntmps56
 go_wp2_with (go_at_call 47;with_reducible refine(HC _).mono ?_;rintro e w1 ⟨rfl,rfl⟩)
 refine LA (v := .tuple #[.agg #[.int .u64 0,.string ⟨#[]⟩],.int .i64 70]) (by simp[results,results56,go_sem]) rfl ⟨rfl,?_⟩
 exact bal hb _
theorem Qks(w:World)(ht:Tb w)(k:Int)(h1:1<=k)(h2:k<=32)(ao:OA)(b off len cap:Nat)(L:LB)(hr:RdS w ao b off len L)(hsz:∀s∈L,s.size<=140737488351232)(hmx:len<=8796093022208)(hc:len<=cap)(n:Nat)(hn:n<=len)(r:BA)(hq:Hid (rtD (clk k) L n=r)) :
  Calls prog 56 #[.int .i64 k,.slice ao len cap,.int .u64 n] w fun e w'=>e= .returned (.tuple #[.agg #[.int .u64 n,.string r],.int .i64 0])∧Below w.heap.size w w':=by
 have HC:=fun W=>QB W k
 rw[QiS h1 h2] at HC;have e0:IntKind.u64.wrap (len:Int)=(len:Int):=Yz _ (by omega) (by omega)
 have hn':¬((len:Int)<(n:Int)):=by omega
 have hn2:(n:Int)<=(cap:Int):=by omega
 obtain⟨P,hP⟩:∃P,Hid (pks (clk k) (L.take n) 41=P):=⟨_,rfl⟩;have HPk:Hid (∀W,Below w.heap.size w W->Calls prog 97 #[.int .i64 k,.slice ao n cap] W fun e w'=> ∃v,e= .returned v∧Qg w' W.heap.size v P∧Below W.heap.size W w'):=fun W hb=>Qh6 W (ht.next hb) k ao b off n cap (L.take n) ((hr.next hb (Lb _)).take hn) (fun s hs=>hsz s (Nn hs)) (by omega) P hP
 have zP:∀s∈P,s.size<=140737488351232:=by rw[<-hP.out];exact small (Qn k)
 have lP:P.length<=41:=by rw[<-hP.out];exact OQ _ _ _
 have HQ:Hid (dg (clk k) (QO n (Qx (clk k) P))=r):=by rw[<-hP.out];exact hq
 have HRo:Hid (∀W,Below w.heap.size w W -> ∀ao' b' cap',RdS W ao' b' 0 P.length P->Calls prog 46 #[.int .i64 k,.int .u64 n,.slice ao' P.length cap'] W fun e w'=>e= .returned (.string r)∧Below W.heap.size W w'):=fun W hb ao' b' cap' hr'=>OV W (ht.next hb) k n ao' b' 0 P.length cap' P hr' zP (by omega) r HQ.out
 have HZ:Hid (∀s∈P,s.size<=9223372036854775807):=fun s hs=>Lt (zP s hs) (by decide)
 have hb:=Lc w.heap.size w;have HN:=QdJ w 0 ⟨#[]⟩ 33;rw[show((0:Nat):Int)=0 from rfl] at HN
 have HN2:=Qc HN;clear h1 h2 hn hmx hc hr hsz ht hq hP zP lP HQ HN
 go_enter func56,ntmps56
 go_wp2_with (first
  | (go_at_call 47;with_reducible refine(HC _).mono ?_;rintro e w1 ⟨rfl,rfl⟩)
  | (go_at_call 97;with_reducible refine(HPk.out _ (bal hb _)).mono ?_;rintro e w2 ⟨v,rfl,ho,hb2⟩;obtain⟨ao',b',cap',rfl,hr',_,_⟩:=QJ ho HZ.out)
  | (go_at_call 46;with_reducible refine(HRo.out _ (Qa (bal hb _) hb2) _ _ _ hr').mono ?_;rintro e w3 ⟨rfl,hb3⟩;have hR:=(HN2.out.below hb2 (by simp)).below hb3 (by have:=hb2.size;simp at this;omega);have k0:=hR.c0;have k1:=hR.c1;have f0:=hR.f0;have f1:=hR.f1))
 have s0:(w3.setCell ⟨w.heap.size,0,none⟩ (.int .u64 n)).cell? ⟨w.heap.size,0,none⟩=some (.int .u64 n):=LU _ _ _ k0;have s1:((w3.setCell ⟨w.heap.size,0,none⟩ (.int .u64 n)).setCell ⟨w.heap.size,1,none⟩ (.string r)).cell? ⟨w.heap.size,1,none⟩=some (.string r) :=
  LU _ _ _ ((Lz _ _ _ _ (by simp)).trans k1)
 refine LA (v := .tuple #[.agg #[.int .u64 n,.string r],.int .i64 0]) (by simp[results,results56,go_sem,s0,s1]) rfl ⟨rfl,?_⟩
 exact((Qa (Qa (bal hb _) hb2) hb3).setCell (p:=⟨w.heap.size,0,none⟩) (Lb _) _).setCell (p:=⟨w.heap.size,1,none⟩) (Lb _) _
end Go.Proofs.YtoblgjledefdbabGreatDoor
