/- Own work. -/
import Derived.Test.YtoblgjledefdbaaGreatDoorQc24
import Derived.Test.YtoblgjledefdbaaGreatDoorQc25
set_option maxRecDepth 100000
set_option maxHeartbeats 1000000
namespace Go.Proofs.YtoblgjledefdbaaGreatDoor
open Go.RowKit
attribute [local go_sem ↓] Go.wp_at_zero Go.wp_at_succ
open Go.Proofs.Tryz
structure RdF(w:World)(sa:OA)(sb sc:Nat)(da:OA)(db dc:Nat)(P:PV):Prop where
 p:RdPC w sa sb 0 sc da db 0 dc P
 cS:P.S.length<=sc
 nS:sa=none->sc=0
 nD:da=none->dc=0
 mC:dc<=9223372036854775807
theorem RdF.next{w W:World}{sa:OA}{sb sc:Nat}{da:OA}{db dc:Nat}{P:PV}(h:RdF w sa sb sc da db dc P)(hb:Below w.heap.size w W):RdF W sa sb sc da db dc P:=⟨h.p.next hb,h.cS,h.nS,h.nD,h.mC⟩
theorem QgR{w:World}{B T s n c m:Nat}{ao:OA}{xs:List Value}(h:w.ownsRow B T s (.slice ao n c) m xs):n=m∧n<=c∧c<=9223372036854775807:=by
 rcases h.2 with ⟨h1,h0⟩|⟨g,cap,cur,h1,hg,hh,hc1,hc2,_⟩
 ·injection h1 with _ h2 h3
  subst h2 h3;exact⟨h0.symm,La _,Ln _⟩
 ·injection h1 with _ h2 h3
  subst h2 h3;exact⟨rfl,hc1,hc2⟩
theorem Qdb{w:World}{B:Nat}{sv dv:Value}{P:PV}(h:Uu P)(o1:Cv.Own w B sv P.S)(o2:Qg w B dv P.D):∃sa sb sc da db dc,sv= .slice sa P.S.length sc∧dv= .slice da P.D.length dc∧RdF w sa sb sc da db dc P:=by
 have ho:=QS h.1;have i1:=ho.hold;have i2:=ho.hsz;have i3:=ho.len;have i4:=ho.hc;have i5:=ho.k32;obtain⟨sa,sb,sc,rfl,r1,n1⟩:=Qew o1;obtain⟨da,db,dc,rfl,r2,r3,n2⟩:=QH o2 (fun d hd=>by have:=h.2 d hd;omega)
 exact⟨sa,sb,sc,da,db,dc,rfl,rfl,⟨r1,r2,by omega,by omega,by omega,by omega,r3⟩,(QgR o1).2.1,n1,n2,(QgR o2).2.2⟩
theorem QdX(w:World)(s:BA)(hs:s.size<=281474976710656)(P:PV)(h:dec s.data.toList=some P) :
  Calls prog 135 #[.string s] w fun e w'=> ∃sa sb sc da db dc,e= .returned (.tuple #[.agg #[.int .i64 P.kd,.int .i64 P.k,.int .u64 P.old,.int .u64 P.size,.slice sa P.S.length sc,.slice da P.D.length dc],.int .i64 0])∧RdF w' sa sb sc da db dc P∧(Cv.Own w' w.heap.size (.slice sa P.S.length sc) P.S∧Qg w' w.heap.size (.slice da P.D.length dc) P.D)∧Below w.heap.size w w':=by
 refine(Qfl w s hs).mono ?_
 rintro e w' (⟨P',sv,dv,h1,rfl,h3,h4,h5⟩|⟨h1,_⟩)
 ·rw[h] at h1;cases h1;obtain⟨sa,sb,sc,da,db,dc,rfl,rfl,r⟩:=Qdb (QaM h).1 h3 h4;exact⟨sa,sb,sc,da,db,dc,rfl,r,⟨h3,h4⟩,h5⟩
 ·rw[h] at h1;cases h1
theorem QeX(w:World)(k:Int)(k1:1<=k)(k2:k<=32)(s:BA)(hs:s.size<=281474976710656)(P:PV)(hd:dec s.data.toList=some P)(hk:P.k=k) :
  Calls prog 79 #[.int .i64 k,.string s] w fun e w'=> ∃sa sb sc da db dc,e= .returned (.tuple #[.agg #[.int .i64 P.kd,.int .i64 k,.int .u64 P.old,.int .u64 P.size,.slice sa P.S.length sc,.slice da P.D.length dc],.int .i64 0])∧RdF w' sa sb sc da db dc P∧Below w.heap.size w w':=by
 have hw:=(QaM hd).1;obtain⟨kd,kk,old,size,S,D⟩:=P;simp only at hk;subst hk;obtain⟨W0,hW0,h6,hb0,_⟩:=Jq w (.int .i64 0) (.int .i64 0) (.int .u64 0) (.int .u64 0) (.slice none 0 0) (.slice none 0 0);have HX:Hid (∀F,Below W0.heap.size W0 F->Six F w.heap.size (.int .i64 0) (.int .i64 0) (.int .u64 0) (.int .u64 0) (.slice none 0 0) (.slice none 0 0)∧Below w.heap.size w F):=fun F hF=>⟨h6.next hF,Qa hb0 hF⟩
 have HZ:Hid (w.heap.size<W0.heap.size):=h6.lt;have HC:Hid (∀W,Calls prog 91 #[.int .i64 kk] W fun e w'=>e= .returned (.int .i64 0)∧w'=W):=fun W=>by
  have hc:chk kk=0:=by rw[chk,Ld (by omega)]
  rw[<-hc];exact QD W kk
 have HD:Hid (∀W,Calls prog 135 #[.string s] W fun e w'=> ∃sa sc da dc,e= .returned (.tuple #[.agg #[.int .i64 kd,.int .i64 kk,.int .u64 old,.int .u64 size,.slice sa S.length sc,.slice da D.length dc],.int .i64 0])∧Hid (Cv.Own w' W.heap.size (.slice sa S.length sc) S∧Qg w' W.heap.size (.slice da D.length dc) D)∧Below W.heap.size W w'):=fun W=>(QdX W s hs _ hd).mono fun e w' ⟨sa,sb,sc,da,db,dc,h1,_,h2,h3⟩=>⟨sa,sc,da,dc,h1,h2,h3⟩
 have HW:=Qd hw;clear h6 hb0 hs hd k1 k2 hw
 go_enter func79,ntmps79
 go_upto_region 1 with (fail)
 try rw[hW0]
 clear hW0
 go_upto_region 5 with (first
  | (go_at_call 91;with_reducible refine(HC.out _).mono ?_;rintro e w1 ⟨rfl,rfl⟩)
  | (go_at_call 135;with_reducible refine(HD.out _).mono ?_;rintro e w2 ⟨sa,sc,da,dc,rfl,HO,hb2⟩))
 obtain⟨F,hF,h7,hb3,_⟩:=Jq w2 (.int .i64 kd) (.int .i64 kk) (.int .u64 old) (.int .u64 size) (.slice sa S.length sc) (.slice da D.length dc)
 try rw[hF]
 clear hF;obtain⟨m0,m1,m2,m3,m4,m5⟩:=h7.cells;obtain⟨x6,xb⟩:=HX.out _ (Qa hb2 hb3);obtain⟨c0,c1,c2,c3,c4,c5⟩:=x6.cells;have fz:=x6.fz;have hp:=x6.put (.int .i64 kd) (.int .i64 kk) (.int .u64 old) (.int .u64 size) (.slice sa S.length sc) (.slice da D.length dc);have hc:=Yw F w.heap.size (.int .i64 kd) (.int .i64 kk) (.int .u64 old) (.int .u64 size) (.slice sa S.length sc) (.slice da D.length dc);have hr:∃sb db,RdF (Yh F w.heap.size (.int .i64 kd) (.int .i64 kk) (.int .u64 old) (.int .u64 size) (.slice sa S.length sc) (.slice da D.length dc)) sa sb sc da db dc ⟨kd,kk,old,size,S,D⟩:=by
  obtain⟨o1,o2⟩:=HO.out;have hz:=HZ.out;have z1:Cv.Own (Yh F w.heap.size (.int .i64 kd) (.int .i64 kk) (.int .u64 old) (.int .u64 size) (.slice sa S.length sc) (.slice da D.length dc)) w1.heap.size (.slice sa S.length sc) S:=Qj (Cv.Qcg o1 hb3) fun g _ hB=>hc.block g (by show ¬_=_;omega)
  have z2:Qg (Yh F w.heap.size (.int .i64 kd) (.int .i64 kk) (.int .u64 old) (.int .u64 size) (.slice sa S.length sc) (.slice da D.length dc)) w1.heap.size (.slice da D.length dc) D:=Qj (Qx o2 hb3 (La _)) fun g _ hB=>hc.block g (by show ¬_=_;omega)
  obtain⟨a1,b1,c1,a2,b2,c2,e1,e2,r⟩:=Qdb HW.out z1 z2;injection e1 with g1 _ g3
  injection e2 with g4 _ g6
  subst g1 g3 g4 g6;exact⟨b1,b2,r⟩
 unfold Yh at hp hc hr;have HB:=Qd (LO hp (LO hc (LO xb hr)));clear hp hc xb x6 hb2 hb3 h7 hr HO
 repeat go_step
 obtain⟨hp,hc,xb,sb,db,hr⟩:=HB.out;obtain⟨s0,s1,s2,s3,s4,s5⟩:=hp.cells;refine LK (v := .tuple #[.agg #[.int .i64 kd,.int .i64 kk,.int .u64 old,.int .u64 size,.slice sa S.length sc,.slice da D.length dc],.int .i64 0]) (by simp[results,results79,go_sem,s0,s1,s2,s3,s4,s5]) rfl ⟨sa,sb,sc,da,db,dc,rfl,hr,xb.trans (hc.below (by rintro b rfl;omega))⟩
theorem QhQ(bs:BA):∀(n i:Nat) (r:List UInt8),bs.size-i=n->ByteArray.toList.loop bs i r=r.reverse++bs.data.toList.drop i:=by
 intro n
 induction n with
 | zero=>
  intro i r h;rw[ByteArray.toList.loop,Ld (by omega)]
  rw[Nk (by simp;exact(by omega:bs.size<=i)),Nd]
 | succ n ih=>
  intro i r h;have hi:i<bs.size:=by omega
  rw[ByteArray.toList.loop,Lm hi,ih (i+1) _ (by omega)]
  have hl:i<bs.data.toList.length:=by simp;exact hi
  rw[L8 hl,IB,LH];have:bs.get! i=bs.data.toList[i]:=by
   show bs.data[i]! = _
   have hi2:i<bs.data.size:=hi;rw[getElem!_pos bs.data i hi2];simp
  rw[this];rfl
theorem QgJ(bs:BA):bs.toList=bs.data.toList:=by
 rw[ByteArray.toList,QhQ bs bs.size 0 [] rfl];rfl
theorem OJ{x y:BA}(h:x≠y):(x.toList == y.toList)=false:=by
 rw[QgJ,QgJ];simp only[beq_eq_false_iff_ne,ne_eq];intro e;exact h (Wl (Array.toList_inj.1 e))
theorem QcV{x y:BA}(h:x≠y):¬x.toList=y.toList:=fun e=>by
 have:=OJ h;rw[e] at this;simp at this
theorem Qdm{n o:Nat}{d c:BA}(h:¬(n=o∧d=c)):¬n=o∨(n=o∧d≠c):=by
 by_cases h1:n=o
 ·exact .inr ⟨h1,fun h2=>h ⟨h1,h2⟩⟩
 ·exact .inl h1
section
open Pl (pw QF Qw UB Od J3)
open Cv (dnL cov Q0 Row QgX Ou)
theorem Qjj(h x:Nat):dnL h x x=[]:=by
 induction h with
 | zero=>rfl
 | succ h ih=>rw[dnL,Ld (by have:=Qw h;omega)];exact ih
theorem QkQ{h j:Nat}(hj:h<=j):pw j=pw (j-h)*pw h:=by rw[<-Od];congr 1;omega
theorem Qjk(h:Nat):∀j lo hi q,h<=j->hi-lo<pw j->(hi-lo)/pw h*pw h=q->dnL j lo hi=dnL j lo (lo+q)++dnL h (lo+q) hi:=by
 intro j
 induction j with
 | zero=>
  intro lo hi q hj _ _;obtain rfl:h=0:=by omega
  rfl
 | succ j ih=>
  intro lo hi q hj hl hq;have hp:=Qw h;have hpj:=Qw j
  by_cases he:h=j+1
  ·subst he;have:q=0:=by rw[<-hq,N8 hl,Wu]
   subst this
   show dnL (j+1) lo hi=dnL (j+1) lo lo++dnL (j+1) lo hi
   rw[Qjj,Ny]
  ·have hj':h<=j:=by omega
   have hc:=QkQ hj';have hps:=QF j;rw[dnL,dnL]
   by_cases hf:pw j<=hi-lo
   ·have hq1:pw j<=q:=by
     rw[<-hq,hc];refine LM _ ?_
     rw[Nat.le_div_iff_mul_le hp,<-hc];exact hf
    have e2:(hi-(lo+pw j))/pw h*pw h=q-pw j:=by
     have e3:hi-lo=(hi-(lo+pw j))+pw (j-h)*pw h:=by rw[<-hc];omega
     rw[e3,Nat.add_mul_div_right _ _ hp,LT,<-hc] at hq;omega
    have:=ih (lo+pw j) hi (q-pw j) hj' (by omega) e2
    rw[show lo+pw j+(q-pw j)=lo+q by omega] at this
    rw[Lm hf,Lm (by omega),this,N7]
   ·have hq1:¬pw j<=q:=by
     have:=Ii (hi-lo) (pw h);omega
    rw[Ld hf,Ld (by omega)]
    exact ih lo hi q hj' (by omega) hq
theorem Ql3(h:Nat):∀j lo hi,hi-lo<pw j->(∃c,hi-lo=c*pw h) -> ∀b∈dnL j lo hi,h<=b.1:=by
 intro j
 induction j with
 | zero=>intro lo hi _ _ b hb;cases hb
 | succ j ih=>
  intro lo hi hl hc b hb;obtain⟨c,hc⟩:=hc;have hps:=QF j;have hpj:=Qw j;rw[dnL] at hb
  split at hb
  ·rename_i hf
   have hj:h<=j:=by
    apply Classical.byContradiction
    intro hlt;have h1:pw (j+1)<=pw h:=J3 (by omega)
    have h2:c=0:=by
     apply Classical.byContradiction
     intro h0;have:=LM (pw h) (show 1<=c by omega)
     omega
    subst h2;omega
   rcases List.mem_cons.1 hb with rfl|hb
   ·exact hj
   ·refine ih (lo+pw j) hi (by omega) ⟨c-pw (j-h),?_⟩ b hb
    rw[Nat.sub_mul,<-QkQ hj,<-hc];omega
  ·exact ih lo hi (by omega) ⟨c,hc⟩ b hb
theorem QjG{h k:Nat}(hk:0<k)(hl:k*pw h<=2^40):h<=40:=Cv.pw40 (Lu (by have:=LM (pw h) hk;rwa [Na] at this) hl)
theorem QcA(h K:Nat)(hl:(2*K+1)*pw h<=2^40):cov 0 ((2*K+1)*pw h)=cov 0 (2*K*pw h)++[(h,2*K)]:=by
 have h40:=QjG (by omega) hl
 have hp:=Qw h;have e1:(2*K+1)*pw h=2*K*pw h+pw h:=by rw[LT,Na]
 have e2:2*K*pw h=K*pw (h+1):=(Cv.QG K h).symm;have hps:=QF h;have h41:pw 41=2^41:=rfl;rw[Q0 _ hl,Q0 _ (by omega),Qjk (h+1) 41 0 ((2*K+1)*pw h) (2*K*pw h) (by omega) (by omega) ?_]
 ·rw[Lo]
  congr 1
  rw[dnL,Lm (by omega),NJ _ hp,<-e1,Qjj]
 ·rw[Wt,e1,e2]
  congr 1
  rw[I5,Nat.add_mul_div_right _ _ (Qw _),N8 (by omega),Lo]
theorem Qi6(h K:Nat)(hl:2*K*pw h<=2^40):∀b∈cov 0 (2*K*pw h),h<b.1:=by
 intro b hb;have h41:pw 41=2^41:=rfl;rw[Q0 _ hl] at hb;exact Ql3 (h+1) 41 0 _ (by omega) ⟨K,by rw[Wt,Cv.QG]⟩ b hb
theorem Qi7:cov 0 0=[]:=Cv.Qi8 0
def kb(m n:Nat):List (Nat×Nat):=cov 0 m++cov m n
theorem QjV{m n:Nat}(hm:m<=n)(hn:n<=2^40):Row n 0 (kb m n):=QgX (Ou m n hm hn) (Ou 0 m (Ln _) (by omega))
theorem Qfu{m n:Nat}(hm:m<=n)(hn:n<=2^40):(kb m n).length<=120:=by
 have h1:=Cv.UM m (by omega)
 have h2:=Cv.U7 m n hm hn;rw[kb,Le];omega
theorem Qdo{q:Nat} : ∀ {M:List (Nat×Nat)} {p:Nat},Row q p M->p<=q
 | [],_,h=>If h
 | m::M,p,h=>by
  have:=Qdo h.2.2.2;have h1:=Cv.YE m.1 m.2;have h2:=h.1;omega
theorem Qas{q:Nat} : ∀ {M:List (Nat×Nat)} {p:Nat},Row q p M -> ∀b∈M,p<=b.2*pw b.1∧(b.2+1)*pw b.1<=q
 | [],_,_,b,hb=>by cases hb
 | m::M,p,h,b,hb=>by
  rcases List.mem_cons.1 hb with rfl|hb
  ·exact⟨If h.1,Qdo h.2.2.2⟩
  ·have:=Qas h.2.2.2 b hb;have h1:=Cv.YE m.1 m.2;have h2:=h.1;exact⟨by omega,this.2⟩
theorem QgY{q:Nat} : ∀ {L:List (Nat×Nat)} {p:Nat},Row q p L -> ∀b∈L,∀b'∈L,(b.2+1)*pw b.1=(b'.2+1)*pw b'.1->b=b'
 | [],_,_,b,hb,_,_,_=>by cases hb
 | c::L,p,h,b,hb,b',hb',he=>by
  have hf:=Qas h.2.2.2
  rcases List.mem_cons.1 hb with h1|h1
  ·rcases List.mem_cons.1 hb' with h2|h2
   ·rw[h1,h2]
   ·have:=hf b' h2;have:=Cv.YE b'.1 b'.2;rw[h1] at he;omega
  ·rcases List.mem_cons.1 hb' with h2|h2
   ·have:=hf b h1;have:=Cv.YE b.1 b.2;rw[h2] at he;omega
   ·exact QgY h.2.2.2 b h1 b' h2 he
theorem Qkd{L:List (Nat×Nat)}{j:Nat}(hj:j<L.length):L.getD j (0,0)∈L:=by
 rw[Lc,Ll hj];exact LZ hj
structure Jn(c:Nat)(L:List (Nat×Nat))(D:LB)(F:Nat->Nat->BA):Prop where
 at':∀j,j<L.length->F (L.getD j (0,0)).1 (L.getD j (0,0)).2=D.getD j ⟨#[]⟩
 up:∀h k,(h+1,k) ∉ L->F (h+1) k=dg c (Qz (F h (2*k)) (F h (2*k+1)))
 sz:∀h k,(F h k).size<=32
theorem Jn.join{c q p:Nat}{L:List (Nat×Nat)}{D:LB}{F:Nat->Nat->BA}(hJ:Jn c L D F)(hr:Row q p L){h k:Nat}(hb:(h,k)∈L){h' K:Nat}(hh:h<=h')(he:(K+1)*pw (h'+1)=(k+1)*pw h):F (h'+1) K=dg c (Qz (F h' (2*K)) (F h' (2*K+1))) :=
 hJ.up h' K fun hm=>by
  have:=QgY hr _ hm _ hb he;injection this with h1 _
  omega
end
section
open Cv (RdC zl cU cov)
open Pl (pw)
def isK(kd k:Int)(old size ns:Nat):Prop:=(kd=3∧(1<=k∧k<=32))∧size<=2^40∧old<=size∧ns=0
instance (kd k:Int) (old size ns:Nat):Decidable (isK kd k old size ns):=by unfold isK;infer_instance
theorem QjN(w:World)(kd k:Int)(old size:Nat)(sa:OA)(ns sc:Nat)(da:OA)(n2 dc:Nat)(r:Bool)(hr:decide (isK kd k old size ns)=r) :
  Calls prog 136 #[vP kd k old size (.slice sa ns sc) (.slice da n2 dc)] w fun e w'=>e= .returned (.bool r)∧Below w.heap.size w w':=by
 have hb:=bal (Lb w.heap.size w) (oP kd k old size (.slice sa ns sc) (.slice da n2 dc))
 by_cases h1:kd=3
 ·subst h1
  by_cases h2:1<=k∧k<=32
  ·have HC:Hid (∀W,Calls prog 91 #[.int .i64 k] W fun e w'=>e= .returned (.int .i64 0)∧W=w'):=fun W=>by
    have:=(QD W k);rw[show chk k=0 by rw[chk,Ld (by omega)]] at this
    exact this.mono fun _ _ h=>⟨h.1,h.2.symm⟩
   by_cases h3:size<=2^40
   ·have z3:(size:Int)<=1099511627776:=by omega
    by_cases h4:old<=size
    ·have z4:(old:Int)<=(size:Int):=by omega
     by_cases h5:ns=0
     ·subst h5;obtain rfl:true=r:=by rw[<-hr];exact(LV ⟨⟨rfl,h2⟩,h3,h4,rfl⟩).symm
      clear hr h2 h3 h4;unfold vP;unfold oP at hb
      go_enter func136,ntmps136
      go_wp2_with (go_at_call 91;with_reducible refine(HC.out _).mono ?_;rintro e w1 ⟨rfl,rfl⟩)
      go_ret
      exact⟨rfl,hb⟩
     ·have hz:((ns:Int) == 0)=false:=beq_false_of_ne (by omega)
      obtain rfl:false=r:=by rw[<-hr];exact(Lx (by rintro⟨_,_,_,h⟩;exact h5 h)).symm
      clear hr h2 h3 h4 h5
      go_enter func136,ntmps136
      go_wp2_with (go_at_call 91;with_reducible refine(HC.out _).mono ?_;rintro e w1 ⟨rfl,rfl⟩)
      go_ret
      exact⟨rfl,hb⟩
    ·have z4:¬(old:Int)<=(size:Int):=by omega
     obtain rfl:false=r:=by rw[<-hr];exact(Lx (by rintro⟨_,_,h,_⟩;exact h4 h)).symm
     clear hr h2 h3 h4
     go_enter func136,ntmps136
     go_wp2_with (go_at_call 91;with_reducible refine(HC.out _).mono ?_;rintro e w1 ⟨rfl,rfl⟩)
     go_ret
     exact⟨rfl,hb⟩
   ·have z3:¬(size:Int)<=1099511627776:=by omega
    obtain rfl:false=r:=by rw[<-hr];exact(Lx (by rintro⟨_,h,_⟩;exact h3 h)).symm
    clear hr h2 h3
    go_enter func136,ntmps136
    go_wp2_with (go_at_call 91;with_reducible refine(HC.out _).mono ?_;rintro e w1 ⟨rfl,rfl⟩)
    go_ret
    exact⟨rfl,hb⟩
  ·have HC:Hid (∀W,Calls prog 91 #[.int .i64 k] W fun e w'=>e= .returned (.int .i64 70)∧W=w'):=fun W=>by
    have:=(QD W k);rw[show chk k=70 by rw[chk,Lm (by omega)]] at this
    exact this.mono fun _ _ h=>⟨h.1,h.2.symm⟩
   obtain rfl:false=r:=by rw[<-hr];exact(Lx (by rintro⟨⟨_,h⟩,_⟩;exact h2 h)).symm
   clear hr h2
   go_enter func136,ntmps136
   go_wp2_with (go_at_call 91;with_reducible refine(HC.out _).mono ?_;rintro e w1 ⟨rfl,rfl⟩)
   go_ret
   exact⟨rfl,hb⟩
 ·obtain rfl:false=r:=by rw[<-hr];exact(Lx (by rintro⟨⟨h,_⟩,_⟩;exact h1 h)).symm
  clear hr
  go_enter func136,ntmps136;go_wp2
  go_ret
  exact⟨rfl,hb⟩
theorem QcS(w:World)(kd k:Int)(old size:Nat)(sa:OA)(ns sc:Nat)(da:OA)(db dO dc:Nat)(D:LB)(hr:RdS w da db dO D.length D)(hm:D.length<=8796093022208)(ao:OA)(m0 c0:Nat)(r:Bool)(hq:decide (fil k m0 D)=r) :
  Calls prog 137 #[.slice ao m0 c0,vP kd k old size (.slice sa ns sc) (.slice da D.length dc)] w fun e w'=>e= .returned (.bool r)∧Below w.heap.size w w':=by
 obtain⟨o1,ho1⟩:∃o1,oP kd k old size (.slice sa ns sc) (.slice da D.length dc)=o1:=⟨_,rfl⟩;have hb0:=bal (Lb w.heap.size w) o1;have h6:Six (w.alloc o1) w.heap.size (.int .i64 kd) (.int .i64 k) (.int .u64 old) (.int .u64 size) (.slice sa ns sc) (.slice da D.length dc):=by rw[<-ho1];exact Yl w _ _ _ _ _ _
 have HB:=Qd hb0;obtain⟨z0,z1,z2,z3,z4,z5⟩:=h6.cells;have HR:Hid (∀W,Below w.heap.size w W->RdS W da db dO D.length D):=fun W hb=>hr.next hb (La _)
 have hm1:(D.length:Int)<=8796093022208:=by omega
 by_cases hl:D.length=m0
 ·subst hl;have HQ:Hid (decide (∀d∈D,(d.size:Int)=k)=r):=by
   rw[<-hq]
   show decide _=decide _
   simp only[fil,true_and]
  clear hr hq hm hb0 h6;unfold vP
  go_enter func137,ntmps137
  go_upto_region 1 with (fail)
  clear ho1;go_wp2
  go_loopg [16] D.length (fun g i wr=> ∃j:Nat,j<=D.length∧g=D.length-j∧i= .int .i64 j∧(∀t,t<j->((D.getD t ByteArray.empty).size:Int)=k)∧w.alloc o1=wr)
  case atStart=>go_light;exact⟨0,Ln _,rfl,rfl,fun t ht=>absurd ht (Ib _),rfl⟩
  case round=>
   obtain⟨j,hj,rfl,rfl,hal,rfl⟩:=hrel
   by_cases hlt:j<D.length
   ·have hz:(j:Int)<(D.length:Int):=by omega
    have hz0:(0:Int)<=(j:Int):=Lh _;have hrd:=HR.out _ HB.out;obtain rfl:=hrd.ptr (by omega)
    have cj:=hrd.at hlt;obtain⟨d,hd⟩:∃d,D.getD j ByteArray.empty=d:=⟨_,rfl⟩;rw[hd] at cj
    by_cases hk:(d.size:Int)=k
    ·have HN:Hid (∀t,t<j+1->((D.getD t ByteArray.empty).size:Int)=k):=fun t ht=>by
      rcases IP (IT ht) with hx|rfl
      ·exact hal t hx
      ·rw[hd];exact hk
     clear hd hal hrd;go_wp2
     go_roundg (D.length-(j+1))
     case rel=>go_light;exact⟨j+1,by omega,rfl,by go_num,HN.out,rfl⟩
     case measure=>go_light;omega
    ·obtain rfl:false=r:=by
      rw[<-HQ.out];refine(Lx fun h=>hk ?_).symm
      rw[<-hd];exact h _ (Q1 hlt)
     clear hd hal hrd;go_wp2
     go_ret
     exact⟨rfl,HB.out⟩
   ·obtain rfl:j=D.length:=by omega
    have hz:¬((D.length:Int)<(D.length:Int)):=by omega
    obtain rfl:true=r:=by
     rw[<-HQ.out];refine(LV fun d hd=> ?_).symm
     obtain⟨t,ht,rfl⟩:=ND hd;have:=hal t ht
     rwa [Lc,Ll ht] at this
    clear hal hlt;go_wp2
    go_ret
    exact⟨rfl,HB.out⟩
 ·have hz:¬(D.length:Int)=(m0:Int):=by omega
  obtain rfl:false=r:=by rw[<-hq];exact(Lx (by rintro⟨h,_⟩;exact hl h)).symm
  rw[<-ho1] at z0 z1 z2 z3 z4 z5 HB;clear hr hq hm hb0 h6 ho1 hl HR
  go_enter func137,ntmps137;go_wp2
  go_ret
  exact⟨rfl,HB.out⟩
theorem YT{w W:World}{B T s n:Nat}{v:Value}{xs:List Value}(h:w.ownsRow B T s v n xs)(hb:Below w.heap.size w W):W.ownsRow B T s v n xs :=
 Qj h fun g hg _=>hb.block g (LY h g hg).2
theorem Qok{w:World}{g0:Nat}{u0 u1:Value}{L0 L1:List (Int×Nat)}(c0:w.cell? ⟨g0,0,none⟩=some u0)(c1:w.cell? ⟨g0,1,none⟩=some u1)(r0:RdC w u0 L0.length (Cv.cB L0))(r1:RdC w u1 L1.length (Cv.cB L1)):CatB w g0 [u0,u1] [L0,L1]:=by
 refine⟨rfl,fun j hj=> ?_,fun j hj=> ?_⟩
 ·match j with
  | 0=>exact c0
  | 1=>exact c1
  | n+2=>simp at hj;omega
 ·match j with
  | 0=>exact r0
  | 1=>exact r1
  | n+2=>simp at hj;omega
theorem QaW{m n:Nat}(hm:m<=n)(hn:n<=2^40):Cv.Uv m n n=0∧Cv.covR m n n=cov m n:=by
 have:Cv.Uv m n n=0:=by unfold Cv.Uv;rw[Ld (by omega),Ld (by omega),Ld (by omega)]
 exact⟨this,by rw[Cv.covR,Lm this]⟩
theorem QpA(m n:Nat):zl (cov 0 m)++zl (cov m n)=zl (kb m n):=by rw[kb,Cv.UG]
theorem On(w:World)(m n:Nat)(hm:m<=n)(hn:n<=2^40) :
  Calls prog 133 #[.int .u64 m,.int .u64 n] w fun e w'=> ∃v,e= .returned v∧Cv.Yb w' w.heap.size v (zl (kb m n))∧Below w.heap.size w w':=by
 have HM:Hid (∀W,Calls prog 105 #[.int .u64 m] W fun e w'=> ∃ao n1 cap,e= .returned (.tuple #[.slice ao n1 cap,.int .i64 0])∧Cv.Yb w' W.heap.size (.slice ao n1 cap) (zl (cov 0 m))∧Below W.heap.size W w'):=fun W=>by
  have h:=Cv.Yj m W;rw[(QaW (Ln _) (by omega)).1,(QaW (Ln _) (by omega)).2] at h
  refine h.mono fun e w' ⟨v,e1,e2,e3⟩=> ?_
  obtain⟨ao,n1,cap,rfl⟩:=Cv.Ql e2;exact⟨ao,n1,cap,e1,e2,e3⟩
 have HR:Hid (∀W,Calls prog 181 #[.int .u64 m,.int .u64 n,.int .u64 n] W fun e w'=> ∃ao n1 cap,e= .returned (.tuple #[.slice ao n1 cap,.int .i64 0])∧Cv.Yb w' W.heap.size (.slice ao n1 cap) (zl (cov m n))∧Below W.heap.size W w'):=fun W=>by
  have h:=Cv.Qap m n n W;rw[(QaW hm hn).1,(QaW hm hn).2] at h;refine h.mono fun e w' ⟨v,e1,e2,e3⟩=> ?_
  obtain⟨ao,n1,cap,rfl⟩:=Cv.Ql e2;exact⟨ao,n1,cap,e1,e2,e3⟩
 have hl:=Qfu hm hn;have HCat:Hid (∀W v0 v1,Cv.Yb W w.heap.size v0 (zl (cov 0 m))->Cv.Yb W w.heap.size v1 (zl (cov m n)) -> ∀t,Calls prog 220 #[.slice (Zp W.heap.size) 2 2] (W.alloc (.cells #[v0,v1] t)) fun e w'=> ∃v,e= .returned v∧Cv.Yb w' W.heap.size v (zl (kb m n))∧Below W.heap.size W w'):=fun W v0 v1 o0 o1 t=>by
  have hb:=bal (Lb W.heap.size W) (.cells #[v0,v1] t);have hx:=Lt W (.cells #[v0,v1] t);have hc:CatB (W.alloc (.cells #[v0,v1] t)) W.heap.size [v0,v1] [zl (cov 0 m),zl (cov m n)]:=by
   refine Qok ?_ ?_ (Cv.Un (Cv.Qdg o0) hb) (Cv.Un (Cv.Qdg o1) hb)
   ·rw[cell_of_row _ _ 0 _ _ (0,0) hx];rfl
   ·rw[cell_of_row _ _ 1 _ _ (0,0) hx];rfl
  have hf:[zl (cov 0 m),zl (cov m n)].flatten=zl (kb m n):=by
   simp only[List.flatten_cons,List.flatten_nil,List.append_nil];exact QpA m n
  refine(QdV _ _ 2 _ _ hc (by simp) (by rw[hf,Cv.Qy];omega) _ hf).mono fun e w' ⟨v,e1,e2,e3⟩=>⟨v,e1,?_,Qa hb e3⟩
  exact World.ownsRow.mono e2 (by simp)
 clear hm hn hl
 go_enter func133,ntmps133
 go_wp2_with (first
  | (go_at_call 105;with_reducible refine(HM.out _).mono ?_;rintro e w1 ⟨a1,n1,c1,rfl,h1,hb1⟩)
  | (go_at_call 181;with_reducible refine(HR.out _).mono ?_;rintro e w2 ⟨a2,n2,c2,rfl,h2,hb2⟩)
  | (go_at_call 220;with_reducible refine(HCat.out w2 _ _ (World.ownsRow.mono (YT h1 hb2) (La _)) (World.ownsRow.mono h2 hb1.size) _).mono ?_;rintro e w3 ⟨v,rfl,h3,hb3⟩))
 obtain⟨a3,n3,c3,rfl⟩:=Cv.Ql h3
 go_ret
 exact⟨_,rfl,World.ownsRow.mono h3 (Lu hb1.size hb2.size),Qa (Qa hb1 hb2) hb3⟩
theorem Qee(w:World)(f:Nat)(K:Int)(L:LB)(hF:Frs w f K L)(m n:Nat)(hn:L.length<n) :
  Calls prog 78 #[.pointer (some ⟨f+1,0,none⟩),.int .u64 m,.int .u64 n] w fun e w'=>e= .returned (.tuple #[noP,.int .i64 30])∧Below w.heap.size w w':=by
 have hb:=bal (Lb w.heap.size w) zP;have HS:=QW _ f K L (hF.next hb (La _));have hn':(L.length:Int)<(n:Int):=by omega
 unfold zP at hb HS;clear hF hn
 go_enter func78,ntmps78
 go_wp2_with (go_at_call 132;with_reducible refine HS.mono ?_;rintro e w1 ⟨rfl,rfl⟩)
 refine LK (v := .tuple #[noP,.int .i64 30]) (by simp[results,results78,go_sem]) rfl ⟨rfl,?_⟩
 exact hb
theorem QcT(w:World)(f:Nat)(K:Int)(L:LB)(hF:Frs w f K L)(m n:Nat)(hn:¬L.length<n)(hm:n<m) :
  Calls prog 78 #[.pointer (some ⟨f+1,0,none⟩),.int .u64 m,.int .u64 n] w fun e w'=>e= .returned (.tuple #[noP,.int .i64 41])∧Below w.heap.size w w':=by
 have hb:=bal (Lb w.heap.size w) zP;have HS:=QW _ f K L (hF.next hb (La _));have hn':¬(L.length:Int)<(n:Int):=by omega
 have hm':(n:Int)<(m:Int):=by omega
 unfold zP at hb HS;clear hF hn hm
 go_enter func78,ntmps78
 go_wp2_with (go_at_call 132;with_reducible refine HS.mono ?_;rintro e w1 ⟨rfl,rfl⟩)
 refine LK (v := .tuple #[noP,.int .i64 41]) (by simp[results,results78,go_sem]) rfl ⟨rfl,?_⟩
 exact hb
def Ow(c:Nat)(L:LB)(m n:Nat):LB:=(kb m n).map fun b=>nd c L b.1 b.2
theorem QdZ(c:Nat)(L:LB)(m n:Nat):(Ow c L m n).length=(kb m n).length:=LC ..
theorem QnT{m n:Nat}(hm:m<=n)(hn:n<=2^40):∀b∈kb m n,(b.2+1)*2^b.1<=n:=fun b hb=>(Qas (QjV hm hn) b hb).2
theorem QhI(w:World)(f:Nat)(K:Int)(L:LB)(hF:Frs w f K L)(hL:L.length<=5000)(m n:Nat)(hn:n<=L.length)(hmn:m<=n)(D:LB)(hD:Ow (clk K) L m n=D) :
  Calls prog 78 #[.pointer (some ⟨f+1,0,none⟩),.int .u64 m,.int .u64 n] w fun e w'=> ∃vd,e= .returned (.tuple #[.agg #[.int .i64 3,.int .i64 K,.int .u64 m,.int .u64 n,.slice none 0 0,vd],.int .i64 0])∧Qg w' w.heap.size vd D∧Below w.heap.size w w':=by
 have h40:n<=2^40:=by omega
 have hin:=QnT hmn h40;obtain⟨o0,ho0⟩:∃o0,zP=o0:=⟨_,rfl⟩;have hb:=bal (Lb w.heap.size w) o0;have HS:=QW _ f K L (hF.next hb (La _));obtain⟨C,hC⟩:∃C,zl (kb m n)=C:=⟨_,rfl⟩;have hlC:C.length<=1000000:=by rw[<-hC,Cv.Qy];have:=Qfu hmn h40;omega
 have HBk:Calls prog 133 #[.int .u64 m,.int .u64 n] (w.alloc o0) fun e w'=> ∃ao g cap,e= .returned (.slice ao C.length cap)∧RdB w' ao g 0 C.length C∧Below (w.alloc o0).heap.size (w.alloc o0) w':=by
  refine(On (w.alloc o0) m n hmn h40).mono fun e w' ⟨v,e1,e2,e3⟩=> ?_
  rw[hC] at e2;obtain⟨ao,g,n',cap,rfl,hr',_⟩:=Jd e2 (fun x hx=>by
   rw[<-hC] at hx;obtain⟨b0,hb0,rfl⟩:=List.mem_map.1 hx;exact(Qbe (hin b0 hb0) h40).1)
  obtain rfl:=hr'.len;exact⟨ao,g,cap,e1,hr',e3⟩
 have hds:dgs (clk K) L C=some D:=by rw[<-hC,Ox (fun b hb=>Lu (hin b hb) hn),<-hD];rfl
 have HD:Hid (∀W ao g cap,Below w.heap.size w W->RdB W ao g 0 C.length C->Calls prog 106 #[.pointer (some ⟨f+1,0,none⟩),.slice ao C.length cap] W fun e w'=>Below W.heap.size W w' ∧ ∃ad md cd,e= .returned (.tuple #[.slice ad md cd,.bool true])∧Qg w' W.heap.size (.slice ad md cd) D):=fun W ao g cap hb hr=>by
  refine(Ub W f K L (hF.next hb (La _)) ao g 0 cap C hr (by omega)).mono ?_
  rintro e w' ⟨hb',⟨h1,_⟩|⟨D',h1,v,rfl,ho⟩⟩
  ·rw[hds] at h1;cases h1
  ·rw[hds] at h1;injection h1 with h1
   subst h1;obtain⟨ad,md,cd,rfl⟩:=Cv.Ql ho;exact⟨hb',ad,md,cd,rfl,ho⟩
 have HSt:Hid (∀W,Below w.heap.size w W->Calls prog 134 #[.pointer (some ⟨f+1,0,none⟩)] W fun e w'=>e= .returned (.int .i64 K)∧W=w'):=fun W hb=>(YU W f K L (hF.next hb (La _))).mono fun _ _ h=>⟨h.1,h.2.symm⟩
 have hn':¬(L.length:Int)<(n:Int):=by omega
 have hm':¬(n:Int)<(m:Int):=by omega
 have HP:Hid (∀W,Below (w.alloc o0).heap.size (w.alloc o0) W->Six W w.heap.size (.int .i64 0) (.int .i64 0) (.int .u64 0) (.int .u64 0) (.slice none 0 0) (.slice none 0 0)):=fun W hb=>Six.next (show Six (w.alloc o0) _ _ _ _ _ _ _ by rw[<-ho0];exact Yl w _ _ _ _ _ _) hb
 rw[<-ho0] at hb HS HP HBk;unfold zP at hb HS HP HBk;clear hF hn hL ho0 hin hds hD hlC hC h40 hmn
 go_enter func78,ntmps78
 go_wp2_with (first
  | (go_at_call 132;with_reducible refine HS.mono ?_;rintro e w0 ⟨rfl,rfl⟩)
  | (go_at_call 133;with_reducible refine HBk.mono ?_;rintro e w1 ⟨ao,g,cap,rfl,hr1,hb1⟩)
  | (go_at_call 106;with_reducible refine(HD.out _ _ _ _ (Qa hb hb1) hr1).mono ?_;rintro e w2 ⟨hb2,ad,md,cd,rfl,ho⟩)
  | (go_at_call 134;with_reducible refine(HSt.out _ (Qa (Qa hb hb1) hb2)).mono ?_;rintro e w3 ⟨rfl,rfl⟩;have h6:=HP.out _ (Qa hb1 hb2);obtain⟨k0,k1,k2,k3,k4,k5⟩:=h6.cells;have f0:=h6.fz))
 have hF6:=h6.put (.int .i64 3) (.int .i64 K) (.int .u64 m) (.int .u64 n) (.slice none 0 0) (.slice ad md cd);have hch:=Yw w2 w.heap.size (.int .i64 3) (.int .i64 K) (.int .u64 m) (.int .u64 n) (.slice none 0 0) (.slice ad md cd);unfold Yh at hF6 hch;obtain⟨s0,s1,s2,s3,s4,s5⟩:=hF6.cells;refine LK (v := .tuple #[.agg #[.int .i64 3,.int .i64 K,.int .u64 m,.int .u64 n,.slice none 0 0,.slice ad md cd],.int .i64 0]) (by simp[results,results78,go_sem,s0,s1,s2,s3,s4,s5]) rfl ?_
 have hz1:=hb1.size;rw[LN] at hz1;exact⟨_,rfl,(Qj ho fun g _ hg=>hch.block g (by omega)).mono (by omega),(Qa (Qa hb hb1) hb2).trans (hch.below (by rintro b rfl;exact La _))⟩
def Rh(w:World)(g n:Nat)(d:BA):Prop:=w.heap[g]? = some (.cells #[.int .u64 n,.string d] 50 (0,0))
section
variable {w W:World} {g n:Nat} {d:BA}
theorem Rh.cells(t:Rh w g n d):w.cell? ⟨g,0,none⟩=some (.int .u64 n)∧w.cell? ⟨g,1,none⟩=some (.string d) :=
 ⟨by rw[cell_of_row w g 0 _ _ (0,0) t];rfl,by rw[cell_of_row w g 1 _ _ (0,0) t];rfl⟩
theorem Rh.fz(t:Rh w g n d)(j:Nat):w.frozen? ⟨g,j,none⟩=false:=frozen_of_row w g j _ _ t
theorem Rh.lt(t:Rh w g n d):g<w.heap.size:=(Array.getElem?_eq_some_iff.1 t).1
theorem Rh.same(t:Rh w g n d)(hb:W.heap[g]? = w.heap[g]?):Rh W g n d:=hb.trans t
theorem Rh.next(t:Rh w g n d)(hb:Below w.heap.size w W):Rh W g n d:=t.same (hb.block g t.lt)
theorem QkW(w:World)(n:Nat)(d:BA):Rh (w.alloc (.cells #[.int .u64 n,.string d] 50)) w.heap.size n d:=Lt w _
def putR(w:World)(g n:Nat)(d:BA):World:=(w.setCell ⟨g,0,none⟩ (.int .u64 n)).setCell ⟨g,1,none⟩ (.string d)
theorem Rh.put(t:Rh w g n d)(n':Nat)(d':BA):Rh (putR w g n' d') g n' d':=by
 have h0:=Lp w g 0 _ _ (.int .u64 n') t;exact Lp _ g 1 _ _ (.string d') h0
theorem Uz(w:World)(g n:Nat)(d:BA):ChT (fun x=>x=g) w (putR w g n d):=((ChT.refl (fun x=>x=g) w).set g 0 _ rfl).set g 1 _ rfl
end
structure K3(w:World)(s0:Nat)(kd k:Int)(old size:Nat)(vs vd:Value)(n1:Nat)(d1:BA)(n2:Nat)(d2:BA):Prop where
 six:Six w s0 (.int .i64 kd) (.int .i64 k) (.int .u64 old) (.int .u64 size) vs vd
 r1:Rh w (s0+1) n1 d1
 r2:Rh w (s0+2) n2 d2
section
variable {w W:World} {s0:Nat} {kd k:Int} {old size:Nat} {vs vd:Value} {n1 n2:Nat} {d1 d2:BA}
theorem K3.next(h:K3 w s0 kd k old size vs vd n1 d1 n2 d2)(hb:Below w.heap.size w W):K3 W s0 kd k old size vs vd n1 d1 n2 d2:=⟨h.six.next hb,h.r1.next hb,h.r2.next hb⟩
theorem K3.put1(h:K3 w s0 kd k old size vs vd n1 d1 n2 d2)(n:Nat)(d:BA):K3 (putR w (s0+1) n d) s0 kd k old size vs vd n d n2 d2:=by
 have hc:=Uz w (s0+1) n d;exact⟨h.six.same (hc.block s0 (by omega)),h.r1.put n d,h.r2.same (hc.block (s0+2) (by omega))⟩
theorem K3.put2(h:K3 w s0 kd k old size vs vd n1 d1 n2 d2)(n:Nat)(d:BA):K3 (putR w (s0+2) n d) s0 kd k old size vs vd n1 d1 n d:=by
 have hc:=Uz w (s0+2) n d;exact⟨h.six.same (hc.block s0 (by omega)),h.r1.same (hc.block (s0+1) (by omega)),h.r2.put n d⟩
theorem QjU(w:World)(kd k:Int)(old size:Nat)(vs vd:Value){W0:World}(h:((w.alloc (.cells #[.int .i64 kd,.int .i64 k,.int .u64 old,.int .u64 size,vs,vd] 138)).alloc (.cells #[.int .u64 0,.string ⟨#[]⟩] 50)).alloc (.cells #[.int .u64 0,.string ⟨#[]⟩] 50)=W0) :
  K3 W0 w.heap.size kd k old size vs vd 0 ⟨#[]⟩ 0 ⟨#[]⟩∧Below w.heap.size w W0:=by
 subst h;refine⟨⟨?_,?_,?_⟩,bal (bal (bal (Lb _ _) _) _) _⟩
 ·exact(Yl w _ _ _ _ _ _).next (bal (bal (Lb _ _) _) _)
 ·have:=QkW (w.alloc (.cells #[.int .i64 kd,.int .i64 k,.int .u64 old,.int .u64 size,vs,vd] 138)) 0 ⟨#[]⟩;rw[LN] at this;exact this.next (bal (Lb _ _) _)
 ·have:=QkW ((w.alloc (.cells #[.int .i64 kd,.int .i64 k,.int .u64 old,.int .u64 size,vs,vd] 138)).alloc (.cells #[.int .u64 0,.string ⟨#[]⟩] 50)) 0 ⟨#[]⟩;rw[LN,LN] at this;exact this
end
def okK(kd k:Int)(old size ns:Nat)(D:LB):Prop:=isK kd k old size ns∧fil k (kb old size).length D
instance (kd k:Int) (old size ns:Nat) (D:LB):Decidable (okK kd k old size ns D):=by unfold okK;infer_instance
end
def kinD(n1:Nat)(d1:BA)(n2:Nat)(d2:BA)(er:Nat)(o1:Nat)(c1:BA)(o2:Nat)(c2:BA):Int:=if er=0∧(n1=o1∧d1=c1)∧(n2=o2∧d2=c2) then 0 else 150
theorem Qms(w:World)(k:Int)(k1:1<=k)(k2:k<=32)(o1:Nat)(c1:BA)(o2:Nat)(c2:BA)(s:BA)(hs:s.size<=281474976710656)(P:PV)(hd:dec s.data.toList=some P)(hk:P.k=k)
  (n1:Nat) (d1:BA) (n2:Nat) (d2:BA) (er:Nat)
  (hR:∀W sa sb sc da db dc,Below w.heap.size w W->RdF W sa sb sc da db dc P->Calls prog 80 #[vP P.kd k P.old P.size (.slice sa P.S.length sc) (.slice da P.D.length dc)] W fun e w'=>e= .returned (.tuple #[.agg #[.int .u64 n1,.string d1],.agg #[.int .u64 n2,.string d2],.int .i64 er])∧Below W.heap.size W w')
  (r:Int) (hr:kinD n1 d1 n2 d2 er o1 c1 o2 c2=r) :
  Calls prog 36 #[.int .i64 k,.agg #[.int .u64 o1,.string c1],.agg #[.int .u64 o2,.string c2],.string s] w fun e w'=>e= .returned (.int .i64 r)∧Below w.heap.size w w':=by
 have HT:Hid (∀W,Calls prog 79 #[.int .i64 k,.string s] W fun e w'=> ∃sa sb sc da db dc,e= .returned (.tuple #[.agg #[.int .i64 P.kd,.int .i64 k,.int .u64 P.old,.int .u64 P.size,.slice sa P.S.length sc,.slice da P.D.length dc],.int .i64 0])∧RdF w' sa sb sc da db dc P∧Below W.heap.size W w'):=fun W=>QeX W k k1 k2 s hs P hd hk
 obtain⟨kd,kk,old,size,S,D⟩:=P;simp only at HT hR;have HR:=Qd hR;unfold vP at HR;obtain⟨W0,hW0⟩:∃W0,(w.alloc (.cells #[.int .u64 o1,.string c1] 50)).alloc (.cells #[.int .u64 o2,.string c2] 50)=W0:=⟨_,rfl⟩;have hb0:Below w.heap.size w W0:=by rw[<-hW0];exact bal (bal (Lb _ _) _) _
 have hq:Rh W0 w.heap.size o1 c1∧Rh W0 (w.heap.size+1) o2 c2:=by
  obtain⟨e1,e2⟩:=QX w (.cells #[.int .u64 o1,.string c1] 50) (.cells #[.int .u64 o2,.string c2] 50);rw[<-hW0];exact⟨e1,e2⟩
 have HX:Hid (∀F,Below W0.heap.size W0 F->Rh F w.heap.size o1 c1∧Rh F (w.heap.size+1) o2 c2∧Below w.heap.size w F):=fun F hF=>⟨hq.1.next hF,hq.2.next hF,Qa hb0 hF⟩
 clear hs hd hk hR hq hb0 k1 k2
 go_enter func36,ntmps36
 go_upto_region 1 with (fail)
 try rw[hW0]
 clear hW0
 go_upto_region 4 with (go_at_call 79;with_reducible refine(HT.out _).mono ?_;rintro e w1 ⟨sa,sb,sc,da,db,dc,rfl,hF,hb1⟩)
 obtain⟨F,hFe,h7,hb2,_⟩:=Jq w1 (.int .i64 kd) (.int .i64 k) (.int .u64 old) (.int .u64 size) (.slice sa S.length sc) (.slice da D.length dc)
 try rw[hFe]
 clear hFe;obtain⟨m0,m1,m2,m3,m4,m5⟩:=h7.cells;have hF2:=hF.next hb2;have xb:=(HX.out _ (Qa hb1 hb2)).2.2
 go_upto_region 5 with (go_at_call 80;with_reducible refine(HR.out _ _ _ _ _ _ _ xb hF2).mono ?_;rintro e w3 ⟨rfl,hb3⟩)
 obtain⟨G,hG⟩:∃G,(w3.alloc (.cells #[.int .u64 n1,.string d1] 50)).alloc (.cells #[.int .u64 n2,.string d2] 50)=G:=⟨_,rfl⟩
 try rw[hG]
 have hbG:Below w3.heap.size w3 G:=by rw[<-hG];exact bal (bal (Lb _ _) _) _
 have hg:Rh G w3.heap.size n1 d1∧Rh G (w3.heap.size+1) n2 d2:=by
  obtain⟨e1,e2⟩:=QX w3 (.cells #[.int .u64 n1,.string d1] 50) (.cells #[.int .u64 n2,.string d2] 50);rw[<-hG];exact⟨e1,e2⟩
 obtain⟨x1,x2,xB⟩:=HX.out _ (Qa (Qa hb1 hb2) (Qa hb3 hbG));obtain⟨a0,a1⟩:=x1.cells;obtain⟨a2,a3⟩:=x2.cells;obtain⟨b0,b1⟩:=hg.1.cells;obtain⟨b2,b3⟩:=hg.2.cells;clear hG hg x1 x2 hbG hb3 hF2 xb m0 m1 m2 m3 m4 m5 h7 hb2 hF hb1 HR HT HX;have HB:=Qd xB;clear xB;unfold kinD at hr
 by_cases h1:er=0
 ·subst h1
  by_cases h2:n1=o1∧d1=c1
  ·obtain⟨rfl,rfl⟩:=h2
   by_cases h3:n2=o2∧d2=c2
   ·obtain⟨rfl,rfl⟩:=h3;rw[Lm ⟨rfl,⟨rfl,rfl⟩,rfl,rfl⟩] at hr;subst hr;go_wp2
    go_ret
    exact⟨rfl,HB.out⟩
   ·rw[Ld (fun h=>h3 h.2.2)] at hr
    subst hr
    rcases Qdm h3 with hn|⟨rfl,hd⟩
    ·have hz:¬(n2:Int)=(o2:Int):=by omega
     have hzb:((n2:Int) == (o2:Int))=false:=by simpa using hz
     clear h3 hn;go_wp2
     go_ret
     exact⟨rfl,HB.out⟩
    ·have hz:=QcV hd;have hzb:=OJ hd;clear h3 hd;go_wp2
     go_ret
     exact⟨rfl,HB.out⟩
  ·rw[Ld (fun h=>h2 h.2.1)] at hr
   subst hr
   rcases Qdm h2 with hn|⟨rfl,hd⟩
   ·have hz:¬(n1:Int)=(o1:Int):=by omega
    have hzb:((n1:Int) == (o1:Int))=false:=by simpa using hz
    clear h2 hn;go_wp2
    go_ret
    exact⟨rfl,HB.out⟩
   ·have hz:=QcV hd;have hzb:=OJ hd;clear h2 hd;go_wp2
    go_ret
    exact⟨rfl,HB.out⟩
 ·rw[Ld (fun h=>h1 h.1)] at hr
  subst hr;have hz:¬(er:Int)=0:=by omega
  have hzb:((er:Int) == 0)=false:=by simpa using hz
  go_wp2
  go_ret
  exact⟨rfl,HB.out⟩
section
open Cv (RdC zl cU cov)
open Pl (pw)
def Tw(w:World)(g:Nat)(h:Int)(k:Nat):Prop:=w.heap[g]? = some (.cells #[.int .i64 h,.int .u64 k] 249 (0,0))
section
variable {w W:World} {g k:Nat} {h:Int}
theorem Tw.cells(t:Tw w g h k):w.cell? ⟨g,0,none⟩=some (.int .i64 h)∧w.cell? ⟨g,1,none⟩=some (.int .u64 k) :=
 ⟨by rw[cell_of_row w g 0 _ _ (0,0) t];rfl,by rw[cell_of_row w g 1 _ _ (0,0) t];rfl⟩
theorem Tw.fz(t:Tw w g h k)(j:Nat):w.frozen? ⟨g,j,none⟩=false:=frozen_of_row w g j _ _ t
theorem Tw.lt(t:Tw w g h k):g<w.heap.size:=(Array.getElem?_eq_some_iff.1 t).1
theorem Tw.same(t:Tw w g h k)(hb:W.heap[g]? = w.heap[g]?):Tw W g h k:=hb.trans t
theorem Tw.next(t:Tw w g h k)(hb:Below w.heap.size w W):Tw W g h k:=t.same (hb.block g t.lt)
theorem QbO(w:World)(h:Int)(k:Nat):Tw (w.alloc (.cells #[.int .i64 h,.int .u64 k] 249)) w.heap.size h k:=Lt w _
def putB(w:World)(g:Nat)(h:Int)(k:Nat):World:=(w.setCell ⟨g,0,none⟩ (.int .i64 h)).setCell ⟨g,1,none⟩ (.int .u64 k)
theorem Tw.put(t:Tw w g h k)(h':Int)(k':Nat):Tw (putB w g h' k') g h' k':=by
 have h0:=Lp w g 0 _ _ (.int .i64 h') t;exact Lp _ g 1 _ _ (.int .u64 k') h0
theorem QaV(w:World)(g:Nat)(h:Int)(k:Nat):ChT (fun x=>x=g) w (putB w g h k):=((ChT.refl (fun x=>x=g) w).set g 0 _ rfl).set g 1 _ rfl
end
theorem QaZ(w:World)(h k:Nat)(hk:k<2^64)(r:Nat)(hr:sb k=r) :
  Calls prog 226 #[.agg #[.int .i64 h,.int .u64 k]] w fun e w'=>e= .returned (.agg #[.int .i64 h,.int .u64 r])∧Below w.heap.size w w':=by
 have ex:bits .xor .u64 (k:Int) 1=(r:Int):=by rw[<-hr,<-Qk7];exact bits_xor_u64_nat k 1 (by omega) (by decide)
 have t1:=QbO w (h:Int) k;have hb:=bal (Lb w.heap.size w) (.cells #[.int .i64 h,.int .u64 k] 249);have hz:(w.alloc (.cells #[.int .i64 h,.int .u64 k] 249)).heap.size=w.heap.size+1:=LN ..;obtain⟨W,hW⟩:∃W,w.alloc (.cells #[.int .i64 h,.int .u64 k] 249)=W:=⟨_,rfl⟩;rw[hW] at t1 hb hz;have t2:=QbO W 0 0;have hb2:=bal (Lb W.heap.size W) (.cells #[.int .i64 0,.int .u64 ((0:Nat):Int)] 249);have t1':=t1.next hb2;rw[show((0:Nat):Int)=0 from rfl] at hb2 t1'
 have t2':Tw (W.alloc (.cells #[.int .i64 0,.int .u64 0] 249)) W.heap.size 0 0:=t2;obtain⟨W2,hW2⟩:∃W2,W.alloc (.cells #[.int .i64 0,.int .u64 0] 249)=W2:=⟨_,rfl⟩;rw[hW2] at t2' hb2 t1';rw[hz] at t2';obtain⟨c0,c1⟩:=t1'.cells;obtain⟨d0,d1⟩:=t2'.cells;have f0:=t2'.fz 0;have f1:=t2'.fz 1;have hp:=t2'.put (h:Int) r;have hch:=QaV W2 (w.heap.size+1) (h:Int) r;unfold putB at hp hch;obtain⟨s0,s1⟩:=hp.cells;clear hk hr t2 t1
 go_enter func226,ntmps226;go_wp2;refine LK (v := .agg #[.int .i64 h,.int .u64 r]) (by simp[results,results226,go_sem,s0,s1]) rfl ⟨rfl,?_⟩
 exact(Qa hb hb2).trans (hch.below (by rintro b rfl;omega))
structure JS(w:World)(s0:Nat)(v u:Value)(T:List (Nat×Nat))(P:LB):Prop where
 ct:w.heap[s0+1]? = some (.cells #[v] 187 (0,0))
 cp:w.heap[s0+2]? = some (.cells #[u] 22 (0,0))
 ot:Cv.Yb w (s0+3) v (zl T)
 op:Qg w (s0+3) u P
section
variable {w W:World} {s0 q:Nat} {v u:Value} {T:List (Nat×Nat)} {P:LB}
theorem JS.lt(h:JS w s0 v u T P):s0+2<w.heap.size:=(Array.getElem?_eq_some_iff.1 h.cp).1
theorem JS.next(h:JS w s0 v u T P)(hb:Below w.heap.size w W):JS W s0 v u T P:=by
 have hl:=h.lt;exact⟨(hb.block _ (by omega)).trans h.ct,(hb.block _ hl).trans h.cp,YT h.ot hb,YT h.op hb⟩
end
theorem QgS{w:World}{B T s:Nat}{g cap n m:Nat}{xs ys:List Value}(h:w.ownsRow B T s (.slice (Zp g) n cap) n (xs++ys))(hm:xs.length=m*s)(hl:m<=n):w.ownsRow B T s (.slice (Zp g) m cap) m xs:=by
 obtain⟨h1,h2⟩:=h;refine⟨hm,?_⟩
 rcases h2 with ⟨h2,_⟩|⟨g',cap',cur,hv,hg,hh,hc,hm2,hs,hx⟩
 ·cases h2
 ·cases hv;refine .inr ⟨g,cap,cur,rfl,hg,hh,by omega,hm2,hs,?_⟩
  have e:cur.toList.take (m*s)=(cur.toList.take (n*s)).take (m*s):=by
   rw[Wd]
   congr 1
   have:=LM s hl;omega
  rw[e,hx,<-hm,Wb]
theorem OP{w:World}{B T s n m c:Nat}{ao:OA}{xs:List Value}(h:w.ownsRow B T s (.slice ao m c) n xs):m=n:=by
 rcases h.2 with ⟨h2,h3⟩|⟨_,_,_,h2,_⟩
 ·cases h2;exact h3.symm
 ·cases h2;rfl
theorem Qex{w:World}{B T s n m c:Nat}{ao:OA}{xs:List Value}(h:w.ownsRow B T s (.slice ao m c) n xs)(hn:0<n):∃g,ao=Zp g∧B<=g∧g<w.heap.size:=by
 rcases h.2 with ⟨_,h3⟩|⟨g,_,_,h2,hg,hh,_⟩
 ·omega
 ·cases h2;exact⟨g,rfl,hg,(Array.getElem?_eq_some_iff.1 hh).1⟩
theorem QeU(w:World){ops:Array Oper}{o:Oper}{a:Act}{K:Act->World->Prop}{Q:Exit->Act->World->Prop}{E:Prop}(hgd:o.guard=none)
  (s x:Operand) (t:TypeId) (hop:o.op=Op.call { callee:=Callee.builtin Builtin.append,args:=#[s,x],argTypes:=#[t,t] })
  (B:Nat) (e:TypeId) (i:TypeInfo) (z:Value) (size bytes:Nat) (h1:prog.underlying t=some (.slice e)) (h2:prog.info? e=some i) (h3:i.zero=some z) (h4:i.size=size) (h5:i.bytes=bytes) (h6:z.cells.size=size) (h7:0<size)
  (v:Value) (n:Nat) (xs:List Value) (hs:a.eval s=v) (hown:w.ownsRow B e size v n xs) (ad:Addr) (m cap:Nat) (news:List Value) (hx:a.eval x= .slice (some ad) m cap) (hn:news.length=m*size) (hc:∀j u,news[j]? = some u->w.cell? (ad.add j)=some u) (h1c:∀u∈news,u.oneCell'=true)
  (b1:n+m<=maxLen) (b2:(n+m)*bytes<=140737488355328) (hB:B<=w.heap.size)
  (hK:∀v' w',w'.ownsRow B e size v' (n+m) (xs++news)->w.grownBy w' v.ownBlock->K (a.put o.dst v') w'):if Region.wanted o (yielded ops a.tmps)=true then Oper.wp prog o a w K Q else E:=by
 have hw:Region.wanted o (yielded ops a.tmps)=true:=by simp[Region.wanted,hgd]
 rw[Lm hw];obtain⟨v',w',hrun,r1,r2,_⟩:=run_append_own (P:=prog) w B t o.type e i z size bytes h1 h2 h3 h4 h5 h6 h7 v n xs hown ad m cap news hn hc h1c b1 b2 hB;unfold Oper.wp;simp[execOp,hop,resolve,invoke,builtin,hs,hx,hrun,Result.andThen];exact hK v' w' r1 r2
theorem Qle(w:World){ops:Array Oper}{o:Oper}{a:Act}{K:Act->World->Prop}{Q:Exit->Act->World->Prop}{E:Prop}(hgd:o.guard=none)
  (s x:Operand) (hop:o.op=Op.call { callee:=Callee.builtin Builtin.append,args:=#[s,x],argTypes:=#[187,187] })
  (B:Nat) (v:Value) (T:List (Nat×Nat)) (hs:a.eval s=v) (hown:Cv.Yb w B v (zl T)) (g h k:Nat) (hx:a.eval x= .slice (Zp g) 1 1) (hc:Tw w g (h:Int) k) (hl:T.length<=1000) (hB:B<=w.heap.size)
  (hK:∀v' w',Cv.Yb w' B v' (zl (T++[(h,k)]))->w.grownBy w' v.ownBlock->K (a.put o.dst v') w'):if Region.wanted o (yielded ops a.tmps)=true then Oper.wp prog o a w K Q else E:=by
 obtain⟨i0,hi,hz0,hz1,hz2⟩:=info_parts Cv.Tryz.infoB;obtain⟨c0,c1⟩:=hc.cells;refine QeU w hgd s x 187 hop B 249 i0 (.agg #[.int .i64 0,.int .u64 0]) 2 16 underlying187 hi hz0 hz1 hz2 rfl (by decide) v _ _ hs hown ⟨g,0,none⟩ 1 1 [.int .i64 h,.int .u64 k] hx rfl (fun j u hj=> ?_) (by intro u hu;simp at hu;rcases hu with rfl|rfl <;> rfl) (by rw[Cv.Qy];unfold maxLen;omega) (by rw[Cv.Qy];omega) hB (fun v' w' r1 r2=>hK v' w' ?_ r2)
 ·match j,hj with
  | 0,hj=>simp at hj;subst hj;simpa [Addr.add] using c0
  | 1,hj=>simp at hj;subst hj;simpa [Addr.add] using c1
 ·rw[Cv.UG,Cv.Yb,Cv.Qab,Le];exact r1
theorem Qlf(w:World){ops:Array Oper}{o:Oper}{a:Act}{K:Act->World->Prop}{Q:Exit->Act->World->Prop}{E:Prop}(hgd:o.guard=none)
  (s x:Operand) (hop:o.op=Op.call { callee:=Callee.builtin Builtin.append,args:=#[s,x],argTypes:=#[22,22] })
  (B:Nat) (v:Value) (P:LB) (hs:a.eval s=v) (hown:Qg w B v P) (g:Nat) (d:BA) (hx:a.eval x= .slice (Zp g) 1 1) (hc:w.cell? ⟨g,0,none⟩=some (.string d)) (hl:P.length<=1000) (hB:B<=w.heap.size)
  (hK:∀v' w',Qg w' B v' (P++[d])->w.grownBy w' v.ownBlock->K (a.put o.dst v') w'):if Region.wanted o (yielded ops a.tmps)=true then Oper.wp prog o a w K Q else E:=by
 obtain⟨i0,hi,hz0,hz1,hz2⟩:=info_parts Tryz.infoS;refine QeU w hgd s x 22 hop B 9 i0 (.string ByteArray.empty) 1 16 underlying22 hi hz0 hz1 hz2 rfl (by decide) v _ _ hs hown ⟨g,0,none⟩ 1 1 [.string d] hx rfl (fun j u hj=> ?_) (by intro u hu;simp at hu;rcases hu with rfl;rfl) (by unfold maxLen;omega) (by omega) hB (fun v' w' r1 r2=>hK v' w' ?_ r2)
 ·match j,hj with
  | 0,hj=>simp at hj;subst hj;simpa [Addr.add] using hc
 ·rw[Qg,LL,Le];exact r1
end
end Go.Proofs.YtoblgjledefdbaaGreatDoor
