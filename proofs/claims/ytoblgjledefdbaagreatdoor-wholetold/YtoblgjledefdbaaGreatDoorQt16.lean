/- Own work. -/
import Derived.Test.YtoblgjledefdbaaGreatDoorQt15
set_option maxRecDepth 100000
set_option maxHeartbeats 1000000
namespace Go.Proofs.YtoblgjledefdbaaGreatDoor
open Go.RowKit
attribute [local go_sem ↓] Go.wp_at_zero Go.wp_at_succ
open Go.Proofs.Tryz
structure RdF(w:World)(sa:OA)(sb sc:Nat)(da:OA)(db dc:Nat)(P:PV):Prop where
 p:RdPC w sa sb 0 sc da db 0 dc P
 cS:P.S.length<=sc
 nS:sa=none->sc=0
 nD:da=none->dc=0
 mC:dc<=9223372036854775807
variable{W w:World}{ao da sa:OA}{B db dc n o sc:Nat}{P:PV}{c d x y:BA}
theorem RdF.next{sb:Nat}(h:RdF w sa sb sc da db dc P)(hb:Bl w W):RdF W sa sb sc da db dc P:=⟨h.p.next hb,h.cS,h.nS,h.nD,h.mC⟩
theorem QhI{T s c m:Nat}{xs:List Value}(h:w.ownsRow B T s (.slice ao n c) m xs):n=m∧n<=c∧c<=9223372036854775807:=by
 rcases h.2 with ⟨h1,h0⟩|⟨g,cap,cur,h1,hg,hh,hc1,hc2,_⟩
 ·injection h1 with _ h2 h3
  subst h2 h3;exact⟨h0.symm,La _,Ln _⟩
 ·injection h1 with _ h2 h3
  subst h2 h3;exact⟨rfl,hc1,hc2⟩
theorem QhK{sv dv:Value}(h:Jo P)(o1:Cv.Own w B sv P.S)(o2:Qh w B dv P.D):∃sa sb sc da db dc,sv= .slice sa P.S.length sc∧dv= .slice da P.D.length dc∧RdF w sa sb sc da db dc P:=by
 have ho:=Q7 h.1;have i1:=ho.hold;have i2:=ho.hsz;have i3:=ho.len;have i4:=ho.hc;have i5:=ho.k32;obtain⟨sa,sb,sc,rfl,r1,n1⟩:=Qfp o1;obtain⟨da,db,dc,rfl,r2,r3,n2⟩:=Ya o2 (fun d hd=>by have:=h.2 d hd;omega)
 exact⟨sa,sb,sc,da,db,dc,rfl,rfl,⟨r1,r2,by omega,by omega,by omega,by omega,r3⟩,(QhI o1).2.1,n1,n2,(QhI o2).2.2⟩
theorem QeV(w:World)(s:BA)(hs:s.size<=281474976710656)(P:PV)(h:dec s.data.toList=some P) :
  Calls prog 135 #[.string s] w fun e w'=> ∃sa sb sc da db dc,e= .returned (.tuple #[.agg #[.int .i64 P.kd,.int .i64 P.k,.int .u64 P.old,.int .u64 P.size,.slice sa P.S.length sc,.slice da P.D.length dc],.int .i64 0])∧RdF w' sa sb sc da db dc P∧(Cv.Own w' w.heap.size (.slice sa P.S.length sc) P.S∧Qh w' w.heap.size (.slice da P.D.length dc) P.D)∧Bl w w':=by
 refine(Qgk w s hs).mono ?_
 rintro e w' (⟨P',sv,dv,h1,rfl,h3,h4,h5⟩|⟨h1,_⟩)
 ·rw[h] at h1;cases h1;obtain⟨sa,sb,sc,da,db,dc,rfl,rfl,r⟩:=QhK (Qhl h).1 h3 h4;exact⟨sa,sb,sc,da,db,dc,rfl,r,⟨h3,h4⟩,h5⟩
 ·rw[h] at h1;cases h1
theorem Ql7(w:World)(k:Int)(k1:1<=k)(k2:k<=32)(s:BA)(hs:s.size<=281474976710656)(P:PV)(hd:dec s.data.toList=some P)(hk:P.k=k) :
  Calls prog 79 #[.int .i64 k,.string s] w fun e w'=> ∃sa sb sc da db dc,e= .returned (.tuple #[.agg #[.int .i64 P.kd,.int .i64 k,.int .u64 P.old,.int .u64 P.size,.slice sa P.S.length sc,.slice da P.D.length dc],.int .i64 0])∧RdF w' sa sb sc da db dc P∧Bl w w':=by
 have hw:=(Qhl hd).1;obtain⟨kd,kk,xB,xA,S,D⟩:=P;simp only at hk;subst hk;obtain⟨W0,xD,h6,xE,_⟩:=OH w (.int .i64 0) (.int .i64 0) (.int .u64 0) (.int .u64 0) (.slice none 0 0) (.slice none 0 0);have HX:Hid (∀F,Bl W0 F->Six F w.heap.size (.int .i64 0) (.int .i64 0) (.int .u64 0) (.int .u64 0) (.slice none 0 0) (.slice none 0 0)∧Bl w F):=fun F hF=>⟨h6.next hF,Qa xE hF⟩
 have HZ:Hid (w.heap.size<W0.heap.size):=h6.lt;have HC:Hid (∀W,Re 91 #[.int .i64 kk] W (.int .i64 0)):=fun W=>by
  have hc:chk kk=0:=by rw[chk,Le (by omega)]
  rw[<-hc];exact Yp W kk
 have HD:Hid (∀W,Calls prog 135 #[.string s] W fun e w'=> ∃sa sc da dc,e= .returned (.tuple #[.agg #[.int .i64 kd,.int .i64 kk,.int .u64 xB,.int .u64 xA,.slice sa S.length sc,.slice da D.length dc],.int .i64 0])∧Hid (Cv.Own w' W.heap.size (.slice sa S.length sc) S∧Qh w' W.heap.size (.slice da D.length dc) D)∧Bl W w'):=fun W=>(QeV W s hs _ hd).mono fun e w' ⟨sa,sb,sc,da,db,dc,h1,_,h2,h3⟩=>⟨sa,sc,da,dc,h1,h2,h3⟩
 have HW:=Qc hw;clear h6 xE hs hd k1 k2 hw
 go_enter func79,ntmps79
 go_upto_region 1 with (fail)
 try rw[xD]
 clear xD
 go_upto_region 5 with (first
  | (go_at_call 91;with_reducible refine(HC.out _).mono ?_;rintro e w1 ⟨rfl,rfl⟩)
  | (go_at_call 135;with_reducible refine(HD.out _).mono ?_;rintro e w2 ⟨sa,sc,da,dc,rfl,HO,xF⟩))
 obtain⟨F,hF,h7,xC,_⟩:=OH w2 (.int .i64 kd) (.int .i64 kk) (.int .u64 xB) (.int .u64 xA) (.slice sa S.length sc) (.slice da D.length dc)
 try rw[hF]
 clear hF;obtain⟨m0,m1,m2,m3,m4,m5⟩:=h7.cells;obtain⟨x6,xb⟩:=HX.out _ (Qa xF xC);obtain⟨c0,c1,c2,c3,c4,c5⟩:=x6.cells;have fz:=x6.fz;have hp:=x6.put (.int .i64 kd) (.int .i64 kk) (.int .u64 xB) (.int .u64 xA) (.slice sa S.length sc) (.slice da D.length dc);have hc:=Ua F w.heap.size (.int .i64 kd) (.int .i64 kk) (.int .u64 xB) (.int .u64 xA) (.slice sa S.length sc) (.slice da D.length dc);have hr:∃sb db,RdF (Yl F w.heap.size (.int .i64 kd) (.int .i64 kk) (.int .u64 xB) (.int .u64 xA) (.slice sa S.length sc) (.slice da D.length dc)) sa sb sc da db dc ⟨kd,kk,xB,xA,S,D⟩:=by
  obtain⟨o1,o2⟩:=HO.out;have hz:=HZ.out;have z1:Cv.Own (Yl F w.heap.size (.int .i64 kd) (.int .i64 kk) (.int .u64 xB) (.int .u64 xA) (.slice sa S.length sc) (.slice da D.length dc)) w1.heap.size (.slice sa S.length sc) S:=Qr (Cv.QiV o1 xC) fun g _ hB=>hc.block g (by show ¬_=_;omega)
  have z2:Qh (Yl F w.heap.size (.int .i64 kd) (.int .i64 kk) (.int .u64 xB) (.int .u64 xA) (.slice sa S.length sc) (.slice da D.length dc)) w1.heap.size (.slice da D.length dc) D:=Qr (QB o2 xC (La _)) fun g _ hB=>hc.block g (by show ¬_=_;omega)
  obtain⟨a1,b1,c1,a2,b2,c2,e1,e2,r⟩:=QhK HW.out z1 z2;injection e1 with g1 _ g3
  injection e2 with g4 _ g6
  subst g1 g3 g4 g6;exact⟨b1,b2,r⟩
 unfold Yl at hp hc hr;have HB:=Qc (Nx hp (Nx hc (Nx xb hr)));clear hp hc xb x6 xF xC h7 hr HO
 repeat go_step
 obtain⟨hp,hc,xb,sb,db,hr⟩:=HB.out;obtain⟨s0,s1,s2,s3,s4,s5⟩:=hp.cells;refine LD (v := .tuple #[.agg #[.int .i64 kd,.int .i64 kk,.int .u64 xB,.int .u64 xA,.slice sa S.length sc,.slice da D.length dc],.int .i64 0]) (by simp[results,results79,go_sem,s0,s1,s2,s3,s4,s5]) rfl ⟨sa,sb,sc,da,db,dc,rfl,hr,xb.trans (hc.below (by rintro b rfl;omega))⟩
theorem QiO(bs:BA):∀(n i:Nat) (r:List UInt8),bs.size-i=n->ByteArray.toList.loop bs i r=r.reverse++bs.data.toList.drop i:=by
 intro n
 induction n with
 | zero=>
  intro i r h;rw[ByteArray.toList.loop,Le (by omega)]
  rw[L3 (by simp;exact(by omega:bs.size<=i)),LU]
 | succ n ih=>
  intro i r h;have hi:i<bs.size:=by omega
  rw[ByteArray.toList.loop,Lf hi,ih (i+1) _ (by omega)]
  have hl:i<bs.data.toList.length:=by simp;exact hi
  rw[LX hl,Ip,Lw];have:bs.get! i=bs.data.toList[i]:=by
   show bs.data[i]! = _
   have xA:i<bs.data.size:=hi;rw[getElem!_pos bs.data i xA];simp
  rw[this];rfl
theorem Qhx(bs:BA):bs.toList=bs.data.toList:=by
 rw[ByteArray.toList,QiO bs bs.size 0 [] rfl];rfl
theorem Qcd(h:x≠y):(x.toList == y.toList)=false:=by
 rw[Qhx,Qhx];simp only[beq_eq_false_iff_ne,ne_eq];intro e;exact h (I8 (Array.toList_inj.1 e))
theorem Qhy(h:x≠y):¬x.toList=y.toList:=fun e=>by
 have:=Qcd h;rw[e] at this;simp at this
theorem QhQ(h:¬(n=o∧d=c)):¬n=o∨(n=o∧d≠c):=by
 by_cases h1:n=o
 ·exact .inr ⟨h1,fun h2=>h ⟨h1,h2⟩⟩
 ·exact .inl h1
section
open Pl (pw QH QC Oh OT OE)
open Cv (dnL cov Ub Row QhS QdI)
variable{h j k m q:Nat}
theorem Qkm(h x:Nat):dnL h x x=[]:=by
 induction h with
 | zero=>rfl
 | succ h ih=>rw[dnL,Le (by have:=QC h;omega)];exact ih
theorem Qly(hj:h<=j):pw j=pw (j-h)*pw h:=by rw[<-OT];congr 1;omega
theorem Qkn(h:Nat):∀j lo hi q,h<=j->hi-lo<pw j->(hi-lo)/pw h*pw h=q->dnL j lo hi=dnL j lo (lo+q)++dnL h (lo+q) hi:=by
 intro j
 induction j with
 | zero=>
  intro lo hi q hj _ _;obtain rfl:h=0:=by omega
  rfl
 | succ j ih=>
  intro lo hi q hj hl hq;have hp:=QC h;have xC:=QC j
  by_cases he:h=j+1
  ·subst he;have:q=0:=by rw[<-hq,NX hl,Wm]
   subst this
   show dnL (j+1) lo hi=dnL (j+1) lo lo++dnL (j+1) lo hi
   rw[Qkm,Nj]
  ·have xA:h<=j:=by omega
   have hc:=Qly xA;have xD:=QH j;rw[dnL,dnL]
   by_cases hf:pw j<=hi-lo
   ·have xB:pw j<=q:=by
     rw[<-hq,hc];refine LJ _ ?_
     rw[Nat.le_div_iff_mul_le hp,<-hc];exact hf
    have e2:(hi-(lo+pw j))/pw h*pw h=q-pw j:=by
     have e3:hi-lo=(hi-(lo+pw j))+pw (j-h)*pw h:=by rw[<-hc];omega
     rw[e3,Nat.add_mul_div_right _ _ hp,LS,<-hc] at hq;omega
    have:=ih (lo+pw j) hi (q-pw j) xA (by omega) e2
    rw[show lo+pw j+(q-pw j)=lo+q by omega] at this
    rw[Lf hf,Lf (by omega),this,NW]
   ·have xB:¬pw j<=q:=by
     have:=Iz (hi-lo) (pw h);omega
    rw[Le hf,Le (by omega)]
    exact ih lo hi q xA (by omega) hq
theorem QmS(h:Nat):∀j lo hi,hi-lo<pw j->(∃c,hi-lo=c*pw h) -> ∀b∈dnL j lo hi,h<=b.1:=by
 intro j
 induction j with
 | zero=>intro lo hi _ _ b hb;cases hb
 | succ j ih=>
  intro lo hi hl hc b hb;obtain⟨c,hc⟩:=hc;have xB:=QH j;have xA:=QC j;rw[dnL] at hb
  split at hb
  ·rename_i hf
   have hj:h<=j:=by
    apply Classical.byContradiction
    intro hlt;have h1:pw (j+1)<=pw h:=OE (by omega)
    have h2:c=0:=by
     apply Classical.byContradiction
     intro h0;have:=LJ (pw h) (show 1<=c by omega)
     omega
    subst h2;omega
   rcases List.mem_cons.1 hb with rfl|hb
   ·exact hj
   ·refine ih (lo+pw j) hi (by omega) ⟨c-pw (j-h),?_⟩ b hb
    rw[Nat.sub_mul,<-Qly hj,<-hc];omega
  ·exact ih lo hi (by omega) ⟨c,hc⟩ b hb
theorem QkE(hk:0<k)(hl:k*pw h<=2^40):h<=40:=Cv.pw40 (Lr (by have:=LJ (pw h) hk;rwa [L9] at this) hl)
theorem QdH(h K:Nat)(hl:(2*K+1)*pw h<=2^40):cov 0 ((2*K+1)*pw h)=cov 0 (2*K*pw h)++[(h,2*K)]:=by
 have xA:=QkE (by omega) hl
 have hp:=QC h;have e1:(2*K+1)*pw h=2*K*pw h+pw h:=by rw[LS,L9]
 have e2:2*K*pw h=K*pw (h+1):=(Cv.QE K h).symm;have xC:=QH h;have xB:pw 41=2^41:=rfl;rw[Ub _ hl,Ub _ (by omega),Qkn (h+1) 41 0 ((2*K+1)*pw h) (2*K*pw h) (by omega) (by omega) ?_]
 ·rw[Ll]
  congr 1
  rw[dnL,Lf (by omega),ND _ hp,<-e1,Qkm]
 ·rw[Wl,e1,e2]
  congr 1
  rw[Wj,Nat.add_mul_div_right _ _ (QC _),NX (by omega),Ll]
theorem Qkb(h K:Nat)(hl:2*K*pw h<=2^40):∀b∈cov 0 (2*K*pw h),h<b.1:=by
 intro b hb;have xA:pw 41=2^41:=rfl;rw[Ub _ hl] at hb;exact QmS (h+1) 41 0 _ (by omega) ⟨K,by rw[Wl,Cv.QE]⟩ b hb
theorem Qkc:cov 0 0=[]:=Cv.Qkd 0
def kb(m n:Nat):List (Nat×Nat):=cov 0 m++cov m n
theorem QkO(hm:m<=n)(hn:n<=2^40):Row n 0 (kb m n):=QhS (QdI m n hm hn) (QdI 0 m (Ln _) (by omega))
theorem Qgw(hm:m<=n)(hn:n<=2^40):(kb m n).length<=120:=by
 have h1:=Cv.UW m (by omega)
 have h2:=Cv.O5 m n hm hn;rw[kb,Lc];omega
theorem Qeu : ∀ {M:List (Nat×Nat)} {p:Nat},Row q p M->p<=q
 | [],_,h=>NE h
 | m::M,p,h=>by
  have:=Qeu h.2.2.2;have h1:=Cv.YU m.1 m.2;have h2:=h.1;omega
theorem Qa4 : ∀ {M:List (Nat×Nat)} {p:Nat},Row q p M -> ∀b∈M,p<=b.2*pw b.1∧(b.2+1)*pw b.1<=q
 | [],_,_,b,hb=>by cases hb
 | m::M,p,h,b,hb=>by
  rcases List.mem_cons.1 hb with rfl|hb
  ·exact⟨NE h.1,Qeu h.2.2.2⟩
  ·have:=Qa4 h.2.2.2 b hb;have h1:=Cv.YU m.1 m.2;have h2:=h.1;exact⟨by omega,this.2⟩
theorem QhT : ∀ {L:List (Nat×Nat)} {p:Nat},Row q p L -> ∀b∈L,∀b'∈L,(b.2+1)*pw b.1=(b'.2+1)*pw b'.1->b=b'
 | [],_,_,b,hb,_,_,_=>by cases hb
 | c::L,p,h,b,hb,b',hb',he=>by
  have hf:=Qa4 h.2.2.2
  rcases List.mem_cons.1 hb with h1|h1
  ·rcases List.mem_cons.1 hb' with h2|h2
   ·rw[h1,h2]
   ·have:=hf b' h2;have:=Cv.YU b'.1 b'.2;rw[h1] at he;omega
  ·rcases List.mem_cons.1 hb' with h2|h2
   ·have:=hf b h1;have:=Cv.YU b.1 b.2;rw[h2] at he;omega
   ·exact QhT h.2.2.2 b h1 b' h2 he
theorem QkW{L:List (Nat×Nat)}(hj:j<L.length):L.getD j (0,0)∈L:=by
 rw[Ld,Lk hj];exact L8 hj
structure Jn(c:Nat)(L:List (Nat×Nat))(D:LB)(F:Nat->Nat->BA):Prop where
 at':∀j,j<L.length->F (L.getD j (0,0)).1 (L.getD j (0,0)).2=D.getD j ⟨#[]⟩
 up:∀h k,(h+1,k) ∉ L->F (h+1) k=dg c (QN (F h (2*k)) (F h (2*k+1)))
 sz:∀h k,(F h k).size<=32
theorem Jn.join{c p:Nat}{L:List (Nat×Nat)}{D:LB}{F:Nat->Nat->BA}(hJ:Jn c L D F)(hr:Row q p L)(hb:(h,k)∈L){h' K:Nat}(hh:h<=h')(he:(K+1)*pw (h'+1)=(k+1)*pw h):F (h'+1) K=dg c (QN (F h' (2*K)) (F h' (2*K+1))) :=
 hJ.up h' K fun hm=>by
  have:=QhT hr _ hm _ hb he;injection this with h1 _
  omega
end
section
open Cv (RdC zl cU cov)
open Pl (pw)
def isK(kd k:Int)(old size ns:Nat):Prop:=(kd=3∧(1<=k∧k<=32))∧size<=2^40∧old<=size∧ns=0
instance (kd k:Int) (old size ns:Nat):Decidable (isK kd k old size ns):=by unfold isK;infer_instance
theorem QkJ(w:World)(kd k:Int)(old size:Nat)(sa:OA)(ns sc:Nat)(da:OA)(n2 dc:Nat)(r:Bool)(hr:decide (isK kd k old size ns)=r) :
  Zr 136 #[vP kd k old size (.slice sa ns sc) (.slice da n2 dc)] w (.bool r):=by
 have hb:=bal (Lb w.heap.size w) (oP kd k old size (.slice sa ns sc) (.slice da n2 dc))
 by_cases h1:kd=3
 ·subst h1
  by_cases h2:1<=k∧k<=32
  ·have HC:Hid (∀W,Rf 91 #[.int .i64 k] W (.int .i64 0)):=fun W=>by
    have:=(Yp W k);rw[show chk k=0 by rw[chk,Le (by omega)]] at this
    exact this.mono fun _ _ h=>⟨h.1,h.2.symm⟩
   by_cases h3:size<=2^40
   ·have z3:(size:Int)<=1099511627776:=by omega
    by_cases h4:old<=size
    ·have z4:(old:Int)<=(size:Int):=by omega
     by_cases h5:ns=0
     ·subst h5;obtain rfl:true=r:=by rw[<-hr];exact(LW ⟨⟨rfl,h2⟩,h3,h4,rfl⟩).symm
      clear hr h2 h3 h4;unfold vP;unfold oP at hb
      go_enter func136,ntmps136
      go_wp2_with (go_at_call 91;with_reducible refine(HC.out _).mono ?_;rintro e w1 ⟨rfl,rfl⟩)
      go_ret
      exact⟨rfl,hb⟩
     ·have hz:((ns:Int) == 0)=false:=beq_false_of_ne (by omega)
      obtain rfl:false=r:=by rw[<-hr];exact(LA (by rintro⟨_,_,_,h⟩;exact h5 h)).symm
      clear hr h2 h3 h4 h5
      go_enter func136,ntmps136
      go_wp2_with (go_at_call 91;with_reducible refine(HC.out _).mono ?_;rintro e w1 ⟨rfl,rfl⟩)
      go_ret
      exact⟨rfl,hb⟩
    ·have z4:¬(old:Int)<=(size:Int):=by omega
     obtain rfl:false=r:=by rw[<-hr];exact(LA (by rintro⟨_,_,h,_⟩;exact h4 h)).symm
     clear hr h2 h3 h4
     go_enter func136,ntmps136
     go_wp2_with (go_at_call 91;with_reducible refine(HC.out _).mono ?_;rintro e w1 ⟨rfl,rfl⟩)
     go_ret
     exact⟨rfl,hb⟩
   ·have z3:¬(size:Int)<=1099511627776:=by omega
    obtain rfl:false=r:=by rw[<-hr];exact(LA (by rintro⟨_,h,_⟩;exact h3 h)).symm
    clear hr h2 h3
    go_enter func136,ntmps136
    go_wp2_with (go_at_call 91;with_reducible refine(HC.out _).mono ?_;rintro e w1 ⟨rfl,rfl⟩)
    go_ret
    exact⟨rfl,hb⟩
  ·have HC:Hid (∀W,Rf 91 #[.int .i64 k] W (.int .i64 70)):=fun W=>by
    have:=(Yp W k);rw[show chk k=70 by rw[chk,Lf (by omega)]] at this
    exact this.mono fun _ _ h=>⟨h.1,h.2.symm⟩
   obtain rfl:false=r:=by rw[<-hr];exact(LA (by rintro⟨⟨_,h⟩,_⟩;exact h2 h)).symm
   clear hr h2
   go_enter func136,ntmps136
   go_wp2_with (go_at_call 91;with_reducible refine(HC.out _).mono ?_;rintro e w1 ⟨rfl,rfl⟩)
   go_ret
   exact⟨rfl,hb⟩
 ·obtain rfl:false=r:=by rw[<-hr];exact(LA (by rintro⟨⟨h,_⟩,_⟩;exact h1 h)).symm
  clear hr
  go_enter func136,ntmps136;go_wp2
  go_ret
  exact⟨rfl,hb⟩
theorem QdV(w:World)(kd k:Int)(old size:Nat)(sa:OA)(ns sc:Nat)(da:OA)(db dO dc:Nat)(D:LB)(hr:RdS w da db dO D.length D)(hm:D.length<=8796093022208)(ao:OA)(m0 c0:Nat)(r:Bool)(hq:decide (fil k m0 D)=r) :
  Zr 137 #[.slice ao m0 c0,vP kd k old size (.slice sa ns sc) (.slice da D.length dc)] w (.bool r):=by
 obtain⟨o1,xB⟩:=Ze (oP kd k old size (.slice sa ns sc) (.slice da D.length dc));have xD:=bal (Lb w.heap.size w) o1;have h6:Six (w.alloc o1) w.heap.size (.int .i64 kd) (.int .i64 k) (.int .u64 old) (.int .u64 size) (.slice sa ns sc) (.slice da D.length dc):=by rw[<-xB];exact UO w _ _ _ _ _ _
 have HB:=Qc xD;obtain⟨z0,z1,z2,z3,z4,z5⟩:=h6.cells;have HR:Hid (∀W,Bl w W->RdS W da db dO D.length D):=fun W hb=>hr.next hb (La _)
 have xE:(D.length:Int)<=8796093022208:=by omega
 by_cases hl:D.length=m0
 ·subst hl;have HQ:Hid (decide (∀d∈D,(d.size:Int)=k)=r):=by
   rw[<-hq]
   show decide _=decide _
   simp only[fil,true_and]
  clear hr hq hm xD h6;unfold vP
  go_enter func137,ntmps137
  go_upto_region 1 with (fail)
  clear xB;go_wp2
  go_loopg [16] D.length (fun g i wr=> ∃j:Nat,j<=D.length∧g=D.length-j∧i= .int .i64 j∧(∀t,t<j->((D.getD t ByteArray.empty).size:Int)=k)∧w.alloc o1=wr)
  case atStart=>go_light;exact⟨0,Ln _,rfl,rfl,fun t ht=>absurd ht (N6 _),rfl⟩
  case round=>
   obtain⟨j,hj,rfl,rfl,xA,rfl⟩:=hrel
   by_cases hlt:j<D.length
   ·have hz:(j:Int)<(D.length:Int):=by omega
    have xF:(0:Int)<=(j:Int):=Lh _;have xC:=HR.out _ HB.out;obtain rfl:=xC.ptr (by omega)
    have cj:=xC.at hlt;obtain⟨d,hd⟩:=Ze (D.getD j ByteArray.empty);rw[hd] at cj
    by_cases hk:(d.size:Int)=k
    ·have HN:Hid (∀t,t<j+1->((D.getD t ByteArray.empty).size:Int)=k):=fun t ht=>by
      rcases Nat.lt_or_eq_of_le (Nat.le_of_lt_succ ht) with hx|rfl
      ·exact xA t hx
      ·rw[hd];exact hk
     clear hd xA xC;go_wp2
     go_roundg (D.length-(j+1))
     case rel=>go_light;exact⟨j+1,by omega,rfl,by go_num,HN.out,rfl⟩
     case measure=>go_light;omega
    ·obtain rfl:false=r:=by
      rw[<-HQ.out];refine(LA fun h=>hk ?_).symm
      rw[<-hd];exact h _ (Ud hlt)
     clear hd xA xC;go_wp2
     go_ret
     exact⟨rfl,HB.out⟩
   ·obtain rfl:j=D.length:=by omega
    have hz:¬((D.length:Int)<(D.length:Int)):=by omega
    obtain rfl:true=r:=by
     rw[<-HQ.out];refine(LW fun d hd=> ?_).symm
     obtain⟨t,ht,rfl⟩:=NT hd;have:=xA t ht
     rwa [Ld,Lk ht] at this
    clear xA hlt;go_wp2
    go_ret
    exact⟨rfl,HB.out⟩
 ·have hz:¬(D.length:Int)=(m0:Int):=by omega
  obtain rfl:false=r:=by rw[<-hq];exact(LA (by rintro⟨h,_⟩;exact hl h)).symm
  rw[<-xB] at z0 z1 z2 z3 z4 z5 HB;clear hr hq hm xD h6 xB hl HR
  go_enter func137,ntmps137;go_wp2
  go_ret
  exact⟨rfl,HB.out⟩
theorem Y1{T s:Nat}{v:Value}{xs:List Value}(h:w.ownsRow B T s v n xs)(hb:Bl w W):W.ownsRow B T s v n xs :=
 Qr h fun g hg _=>hb.block g (LO h g hg).2
theorem Qpa{g0:Nat}{u0 u1:Value}{L0 L1:List (Int×Nat)}(c0:w.cell? ⟨g0,0,none⟩=some u0)(c1:w.cell? ⟨g0,1,none⟩=some u1)(r0:RdC w u0 L0.length (Cv.cB L0))(r1:RdC w u1 L1.length (Cv.cB L1)):CatB w g0 [u0,u1] [L0,L1]:=by
 refine⟨rfl,fun j hj=> ?_,fun j hj=> ?_⟩
 ·match j with
  | 0=>exact c0
  | 1=>exact c1
  | n+2=>simp at hj;omega
 ·match j with
  | 0=>exact r0
  | 1=>exact r1
  | n+2=>simp at hj;omega
theorem QbE{m:Nat}(hm:m<=n)(hn:n<=2^40):Cv.Js m n n=0∧Cv.covR m n n=cov m n:=by
 have:Cv.Js m n n=0:=by unfold Cv.Js;rw[Le (by omega),Le (by omega),Le (by omega)]
 exact⟨this,by rw[Cv.covR,Lf this]⟩
theorem Qqz(m n:Nat):zl (cov 0 m)++zl (cov m n)=zl (kb m n):=by rw[kb,Cv.QcI]
theorem O2(w:World)(m n:Nat)(hm:m<=n)(hn:n<=2^40) :
  Calls prog 133 #[.int .u64 m,.int .u64 n] w fun e w'=> ∃v,e= .returned v∧Cv.YI w' w.heap.size v (zl (kb m n))∧Bl w w':=by
 have HM:Hid (∀W,Calls prog 105 #[.int .u64 m] W fun e w'=> ∃ao n1 cap,e= .returned (.tuple #[.slice ao n1 cap,.int .i64 0])∧Cv.YI w' W.heap.size (.slice ao n1 cap) (zl (cov 0 m))∧Bl W w'):=fun W=>by
  have h:=Cv.Y8 m W;rw[(QbE (Ln _) (by omega)).1,(QbE (Ln _) (by omega)).2] at h
  refine h.mono fun e w' ⟨v,e1,e2,e3⟩=> ?_
  obtain⟨ao,n1,cap,rfl⟩:=Cv.Qu e2;exact⟨ao,n1,cap,e1,e2,e3⟩
 have HR:Hid (∀W,Calls prog 181 #[.int .u64 m,.int .u64 n,.int .u64 n] W fun e w'=> ∃ao n1 cap,e= .returned (.tuple #[.slice ao n1 cap,.int .i64 0])∧Cv.YI w' W.heap.size (.slice ao n1 cap) (zl (cov m n))∧Bl W w'):=fun W=>by
  have h:=Cv.Qa0 m n n W;rw[(QbE hm hn).1,(QbE hm hn).2] at h;refine h.mono fun e w' ⟨v,e1,e2,e3⟩=> ?_
  obtain⟨ao,n1,cap,rfl⟩:=Cv.Qu e2;exact⟨ao,n1,cap,e1,e2,e3⟩
 have hl:=Qgw hm hn;have xA:Hid (∀W v0 v1,Cv.YI W w.heap.size v0 (zl (cov 0 m))->Cv.YI W w.heap.size v1 (zl (cov m n)) -> ∀t,Calls prog 220 #[.slice (Zp W.heap.size) 2 2] (W.alloc (.cells #[v0,v1] t)) fun e w'=> ∃v,e= .returned v∧Cv.YI w' W.heap.size v (zl (kb m n))∧Bl W w'):=fun W v0 v1 o0 o1 t=>by
  have hb:=bal (Lb W.heap.size W) (.cells #[v0,v1] t);have hx:=LC W (.cells #[v0,v1] t);have hc:CatB (W.alloc (.cells #[v0,v1] t)) W.heap.size [v0,v1] [zl (cov 0 m),zl (cov m n)]:=by
   refine Qpa ?_ ?_ (Cv.Qcr (Cv.QhN o0) hb) (Cv.Qcr (Cv.QhN o1) hb)
   ·rw[cell_of_row _ _ 0 _ _ (0,0) hx];rfl
   ·rw[cell_of_row _ _ 1 _ _ (0,0) hx];rfl
  have hf:[zl (cov 0 m),zl (cov m n)].flatten=zl (kb m n):=by
   simp only[List.flatten_cons,List.flatten_nil,List.append_nil];exact Qqz m n
  refine(Qj9 _ _ 2 _ _ hc (by simp) (by rw[hf,Cv.Ye];omega) _ hf).mono fun e w' ⟨v,e1,e2,e3⟩=>⟨v,e1,?_,Qa hb e3⟩
  exact World.ownsRow.mono e2 (by simp)
 clear hm hn hl
 go_enter func133,ntmps133
 go_wp2_with (first
  | (go_at_call 105;with_reducible refine(HM.out _).mono ?_;rintro e w1 ⟨a1,n1,c1,rfl,h1,xB⟩)
  | (go_at_call 181;with_reducible refine(HR.out _).mono ?_;rintro e w2 ⟨a2,n2,c2,rfl,h2,xC⟩)
  | (go_at_call 220;with_reducible refine(xA.out w2 _ _ (World.ownsRow.mono (Y1 h1 xC) (La _)) (World.ownsRow.mono h2 xB.size) _).mono ?_;rintro e w3 ⟨v,rfl,h3,xD⟩))
 obtain⟨a3,n3,c3,rfl⟩:=Cv.Qu h3
 go_ret
 exact⟨_,rfl,World.ownsRow.mono h3 (Lr xB.size xC.size),Qa (Qa xB xC) xD⟩
def O8(c:Nat)(L:LB)(m n:Nat):LB:=(kb m n).map fun b=>nd c L b.1 b.2
theorem QeW(c:Nat)(L:LB)(m n:Nat):(O8 c L m n).length=(kb m n).length:=LY ..
theorem QoN{m:Nat}(hm:m<=n)(hn:n<=2^40):∀b∈kb m n,(b.2+1)*2^b.1<=n:=fun b hb=>(Qa4 (QkO hm hn) b hb).2
theorem QiI(w:World)(f:Nat)(K:Int)(L:LB)(hF:Frs w f K L)(hL:L.length<=5000)(m n:Nat)(hn:n<=L.length)(hmn:m<=n)(D:LB)(hD:O8 (clk K) L m n=D) :
  Calls prog 78 #[.pointer (some ⟨f+1,0,none⟩),.int .u64 m,.int .u64 n] w fun e w'=> ∃vd,e= .returned (.tuple #[.agg #[.int .i64 3,.int .i64 K,.int .u64 m,.int .u64 n,.slice none 0 0,vd],.int .i64 0])∧Qh w' w.heap.size vd D∧Bl w w':=by
 have xA:n<=2^40:=by omega
 have xG:=QoN hmn xA;obtain⟨o0,xH⟩:=Ze zP;have hb:=bal (Lb w.heap.size w) o0;have HS:=YX _ f K L (hF.next hb (La _));obtain⟨C,hC⟩:=Ze (zl (kb m n));have xN:C.length<=1000000:=by rw[<-hC,Cv.Ye];have:=Qgw hmn xA;omega
 have xC:Calls prog 133 #[.int .u64 m,.int .u64 n] (w.alloc o0) fun e w'=> ∃ao g cap,e= .returned (.slice ao C.length cap)∧RdB w' ao g 0 C.length C∧Below (w.alloc o0).heap.size (w.alloc o0) w':=by
  refine(O2 (w.alloc o0) m n hmn xA).mono fun e w' ⟨v,e1,e2,e3⟩=> ?_
  rw[hC] at e2;obtain⟨ao,g,n',cap,rfl,xJ,_⟩:=Qef e2 (fun x hx=>by
   rw[<-hC] at hx;obtain⟨b0,xM,rfl⟩:=List.mem_map.1 hx;exact(QoL (xG b0 xM) xA).1)
  obtain rfl:=xJ.len;exact⟨ao,g,cap,e1,xJ,e3⟩
 have xF:dgs (clk K) L C=some D:=by rw[<-hC,QdK (fun b hb=>Lr (xG b hb) hn),<-hD];rfl
 have HD:Hid (∀W ao g cap,Bl w W->RdB W ao g 0 C.length C->Calls prog 106 #[.pointer (some ⟨f+1,0,none⟩),.slice ao C.length cap] W fun e w'=>Bl W w' ∧ ∃ad md cd,e= .returned (.tuple #[.slice ad md cd,.bool true])∧Qh w' W.heap.size (.slice ad md cd) D):=fun W ao g cap hb hr=>by
  refine(Qab W f K L (hF.next hb (La _)) ao g 0 cap C hr (by omega)).mono ?_
  rintro e w' ⟨xL,⟨h1,_⟩|⟨D',h1,v,rfl,ho⟩⟩
  ·rw[xF] at h1;cases h1
  ·rw[xF] at h1;injection h1 with h1
   subst h1;obtain⟨ad,md,cd,rfl⟩:=Cv.Qu ho;exact⟨xL,ad,md,cd,rfl,ho⟩
 have xK:Hid (∀W,Bl w W->Rf 134 #[.pointer (some ⟨f+1,0,none⟩)] W (.int .i64 K)):=fun W hb=>(OB W f K L (hF.next hb (La _))).mono fun _ _ h=>⟨h.1,h.2.symm⟩
 have xR:¬(L.length:Int)<(n:Int):=by omega
 have xQ:¬(n:Int)<(m:Int):=by omega
 have HP:Hid (∀W,Below (w.alloc o0).heap.size (w.alloc o0) W->Six W w.heap.size (.int .i64 0) (.int .i64 0) (.int .u64 0) (.int .u64 0) (.slice none 0 0) (.slice none 0 0)):=fun W hb=>Six.next (show Six (w.alloc o0) _ _ _ _ _ _ _ by rw[<-xH];exact UO w _ _ _ _ _ _) hb
 rw[<-xH] at hb HS HP xC;unfold zP at hb HS HP xC;clear hF hn hL xH xG xF hD xN hC xA hmn
 go_enter func78,ntmps78
 go_wp2_with (first
  | (go_at_call 132;with_reducible refine HS.mono ?_;rintro e w0 ⟨rfl,rfl⟩)
  | (go_at_call 133;with_reducible refine xC.mono ?_;rintro e w1 ⟨ao,g,cap,rfl,xO,xB⟩)
  | (go_at_call 106;with_reducible refine(HD.out _ _ _ _ (Qa hb xB) xO).mono ?_;rintro e w2 ⟨xD,ad,md,cd,rfl,ho⟩)
  | (go_at_call 134;with_reducible refine(xK.out _ (Qa (Qa hb xB) xD)).mono ?_;rintro e w3 ⟨rfl,rfl⟩;have h6:=HP.out _ (Qa xB xD);obtain⟨k0,k1,k2,k3,k4,k5⟩:=h6.cells;have f0:=h6.fz))
 have xI:=h6.put (.int .i64 3) (.int .i64 K) (.int .u64 m) (.int .u64 n) (.slice none 0 0) (.slice ad md cd);have xE:=Ua w2 w.heap.size (.int .i64 3) (.int .i64 K) (.int .u64 m) (.int .u64 n) (.slice none 0 0) (.slice ad md cd);unfold Yl at xI xE;obtain⟨s0,s1,s2,s3,s4,s5⟩:=xI.cells;refine LD (v := .tuple #[.agg #[.int .i64 3,.int .i64 K,.int .u64 m,.int .u64 n,.slice none 0 0,.slice ad md cd],.int .i64 0]) (by simp[results,results78,go_sem,s0,s1,s2,s3,s4,s5]) rfl ?_
 have xP:=xB.size;rw[Ng] at xP;exact⟨_,rfl,(Qr ho fun g _ hg=>xE.block g (by omega)).mono (by omega),(Qa (Qa hb xB) xD).trans (xE.below (by rintro b rfl;exact La _))⟩
def Rh(w:World)(g n:Nat)(d:BA):Prop:=w.heap[g]? = some (.cells #[.int .u64 n,.string d] 50 (0,0))
section
variable {w W:World} {g n:Nat} {d:BA}
theorem Rh.cells(t:Rh w g n d):w.cell? ⟨g,0,none⟩=some (.int .u64 n)∧w.cell? ⟨g,1,none⟩=some (.string d) :=
 ⟨by rw[cell_of_row w g 0 _ _ (0,0) t];rfl,by rw[cell_of_row w g 1 _ _ (0,0) t];rfl⟩
theorem Rh.fz(t:Rh w g n d)(j:Nat):w.frozen? ⟨g,j,none⟩=false:=frozen_of_row w g j _ _ t
theorem Rh.lt(t:Rh w g n d):g<w.heap.size:=(Array.getElem?_eq_some_iff.1 t).1
theorem Rh.same(t:Rh w g n d)(hb:W.heap[g]? = w.heap[g]?):Rh W g n d:=hb.trans t
theorem Rh.next(t:Rh w g n d)(hb:Bl w W):Rh W g n d:=t.same (hb.block g t.lt)
theorem QlE(w:World)(n:Nat)(d:BA):Rh (w.alloc (.cells #[.int .u64 n,.string d] 50)) w.heap.size n d:=LC w _
def putR(w:World)(g n:Nat)(d:BA):World:=(w.setCell ⟨g,0,none⟩ (.int .u64 n)).setCell ⟨g,1,none⟩ (.string d)
theorem Rh.put(t:Rh w g n d)(n':Nat)(d':BA):Rh (putR w g n' d') g n' d':=by
 have h0:=Lm w g 0 _ _ (.int .u64 n') t;exact Lm _ g 1 _ _ (.string d') h0
theorem Og(w:World)(g n:Nat)(d:BA):ChT (fun x=>x=g) w (putR w g n d):=((ChT.refl (fun x=>x=g) w).set g 0 _ rfl).set g 1 _ rfl
end
structure K3(w:World)(s0:Nat)(kd k:Int)(old size:Nat)(vs vd:Value)(n1:Nat)(d1:BA)(n2:Nat)(d2:BA):Prop where
 six:Six w s0 (.int .i64 kd) (.int .i64 k) (.int .u64 old) (.int .u64 size) vs vd
 r1:Rh w (s0+1) n1 d1
 r2:Rh w (s0+2) n2 d2
section
variable {w W:World} {s0:Nat} {kd k:Int} {old size:Nat} {vs vd:Value} {n1 n2:Nat} {d1 d2:BA}
theorem K3.next(h:K3 w s0 kd k old size vs vd n1 d1 n2 d2)(hb:Bl w W):K3 W s0 kd k old size vs vd n1 d1 n2 d2:=⟨h.six.next hb,h.r1.next hb,h.r2.next hb⟩
theorem K3.put1(h:K3 w s0 kd k old size vs vd n1 d1 n2 d2)(n:Nat)(d:BA):K3 (putR w (s0+1) n d) s0 kd k old size vs vd n d n2 d2:=by
 have hc:=Og w (s0+1) n d;exact⟨h.six.same (hc.block s0 (by omega)),h.r1.put n d,h.r2.same (hc.block (s0+2) (by omega))⟩
theorem K3.put2(h:K3 w s0 kd k old size vs vd n1 d1 n2 d2)(n:Nat)(d:BA):K3 (putR w (s0+2) n d) s0 kd k old size vs vd n1 d1 n d:=by
 have hc:=Og w (s0+2) n d;exact⟨h.six.same (hc.block s0 (by omega)),h.r1.same (hc.block (s0+1) (by omega)),h.r2.put n d⟩
theorem QkN(w:World)(kd k:Int)(old size:Nat)(vs vd:Value){W0:World}(h:((w.alloc (.cells #[.int .i64 kd,.int .i64 k,.int .u64 old,.int .u64 size,vs,vd] 138)).alloc (.cells #[.int .u64 0,.string ⟨#[]⟩] 50)).alloc (.cells #[.int .u64 0,.string ⟨#[]⟩] 50)=W0) :
  K3 W0 w.heap.size kd k old size vs vd 0 ⟨#[]⟩ 0 ⟨#[]⟩∧Bl w W0:=by
 subst h;refine⟨⟨?_,?_,?_⟩,bal (bal (bal (Lb _ _) _) _) _⟩
 ·exact(UO w _ _ _ _ _ _).next (bal (bal (Lb _ _) _) _)
 ·have:=QlE (w.alloc (.cells #[.int .i64 kd,.int .i64 k,.int .u64 old,.int .u64 size,vs,vd] 138)) 0 ⟨#[]⟩;rw[Ng] at this;exact this.next (bal (Lb _ _) _)
 ·have:=QlE ((w.alloc (.cells #[.int .i64 kd,.int .i64 k,.int .u64 old,.int .u64 size,vs,vd] 138)).alloc (.cells #[.int .u64 0,.string ⟨#[]⟩] 50)) 0 ⟨#[]⟩;rw[Ng,Ng] at this;exact this
end
def okK(kd k:Int)(old size ns:Nat)(D:LB):Prop:=isK kd k old size ns∧fil k (kb old size).length D
instance (kd k:Int) (old size ns:Nat) (D:LB):Decidable (okK kd k old size ns D):=by unfold okK;infer_instance
end
def kinD(n1:Nat)(d1:BA)(n2:Nat)(d2:BA)(er:Nat)(o1:Nat)(c1:BA)(o2:Nat)(c2:BA):Int:=if er=0∧(n1=o1∧d1=c1)∧(n2=o2∧d2=c2) then 0 else 150
theorem Qnf(w:World)(k:Int)(k1:1<=k)(k2:k<=32)(o1:Nat)(c1:BA)(o2:Nat)(c2:BA)(s:BA)(hs:s.size<=281474976710656)(P:PV)(hd:dec s.data.toList=some P)(hk:P.k=k)
  (n1:Nat) (d1:BA) (n2:Nat) (d2:BA) (er:Nat)
  (hR:∀W sa sb sc da db dc,Bl w W->RdF W sa sb sc da db dc P->Zr 80 #[vP P.kd k P.old P.size (.slice sa P.S.length sc) (.slice da P.D.length dc)] W (.tuple #[.agg #[.int .u64 n1,.string d1],.agg #[.int .u64 n2,.string d2],.int .i64 er]))
  (r:Int) (hr:kinD n1 d1 n2 d2 er o1 c1 o2 c2=r) :
  Zr 36 #[.int .i64 k,.agg #[.int .u64 o1,.string c1],.agg #[.int .u64 o2,.string c2],.string s] w (.int .i64 r):=by
 have HT:Hid (∀W,Calls prog 79 #[.int .i64 k,.string s] W fun e w'=> ∃sa sb sc da db dc,e= .returned (.tuple #[.agg #[.int .i64 P.kd,.int .i64 k,.int .u64 P.old,.int .u64 P.size,.slice sa P.S.length sc,.slice da P.D.length dc],.int .i64 0])∧RdF w' sa sb sc da db dc P∧Bl W w'):=fun W=>Ql7 W k k1 k2 s hs P hd hk
 obtain⟨kd,kk,xL,xF,S,D⟩:=P;simp only at HT hR;have HR:=Qc hR;unfold vP at HR;obtain⟨W0,xA⟩:=Ze ((w.alloc (.cells #[.int .u64 o1,.string c1] 50)).alloc (.cells #[.int .u64 o2,.string c2] 50));have xI:Bl w W0:=by rw[<-xA];exact bal (bal (Lb _ _) _) _
 have hq:Rh W0 w.heap.size o1 c1∧Rh W0 (w.heap.size+1) o2 c2:=by
  obtain⟨e1,e2⟩:=Qdy w (.cells #[.int .u64 o1,.string c1] 50) (.cells #[.int .u64 o2,.string c2] 50);rw[<-xA];exact⟨e1,e2⟩
 have HX:Hid (∀F,Bl W0 F->Rh F w.heap.size o1 c1∧Rh F (w.heap.size+1) o2 c2∧Bl w F):=fun F hF=>⟨hq.1.next hF,hq.2.next hF,Qa xI hF⟩
 clear hs hd hk hR hq xI k1 k2
 go_enter func36,ntmps36
 go_upto_region 1 with (fail)
 try rw[xA]
 clear xA
 go_upto_region 4 with (go_at_call 79;with_reducible refine(HT.out _).mono ?_;rintro e w1 ⟨sa,sb,sc,da,db,dc,rfl,hF,xE⟩)
 obtain⟨F,xH,h7,xC,_⟩:=OH w1 (.int .i64 kd) (.int .i64 k) (.int .u64 xL) (.int .u64 xF) (.slice sa S.length sc) (.slice da D.length dc)
 try rw[xH]
 clear xH;obtain⟨m0,m1,m2,m3,m4,m5⟩:=h7.cells;have xG:=hF.next xC;have xb:=(HX.out _ (Qa xE xC)).2.2
 go_upto_region 5 with (go_at_call 80;with_reducible refine(HR.out _ _ _ _ _ _ _ xb xG).mono ?_;rintro e w3 ⟨rfl,xJ⟩)
 obtain⟨G,hG⟩:=Ze ((w3.alloc (.cells #[.int .u64 n1,.string d1] 50)).alloc (.cells #[.int .u64 n2,.string d2] 50))
 try rw[hG]
 have xK:Bl w3 G:=by rw[<-hG];exact bal (bal (Lb _ _) _) _
 have hg:Rh G w3.heap.size n1 d1∧Rh G (w3.heap.size+1) n2 d2:=by
  obtain⟨e1,e2⟩:=Qdy w3 (.cells #[.int .u64 n1,.string d1] 50) (.cells #[.int .u64 n2,.string d2] 50);rw[<-hG];exact⟨e1,e2⟩
 obtain⟨x1,x2,xB⟩:=HX.out _ (Qa (Qa xE xC) (Qa xJ xK));obtain⟨a0,a1⟩:=x1.cells;obtain⟨a2,a3⟩:=x2.cells;obtain⟨b0,b1⟩:=hg.1.cells;obtain⟨b2,b3⟩:=hg.2.cells;clear hG hg x1 x2 xK xJ xG xb m0 m1 m2 m3 m4 m5 h7 xC hF xE HR HT HX;have HB:=Qc xB;clear xB;unfold kinD at hr
 by_cases h1:er=0
 ·subst h1
  by_cases h2:n1=o1∧d1=c1
  ·obtain⟨rfl,rfl⟩:=h2
   by_cases h3:n2=o2∧d2=c2
   ·obtain⟨rfl,rfl⟩:=h3;rw[Lf ⟨rfl,⟨rfl,rfl⟩,rfl,rfl⟩] at hr;subst hr;go_wp2
    go_ret
    exact⟨rfl,HB.out⟩
   ·rw[Le (fun h=>h3 h.2.2)] at hr
    subst hr
    rcases QhQ h3 with hn|⟨rfl,hd⟩
    ·have hz:¬(n2:Int)=(o2:Int):=by omega
     have xD:((n2:Int) == (o2:Int))=false:=by simpa using hz
     clear h3 hn;go_wp2
     go_ret
     exact⟨rfl,HB.out⟩
    ·have hz:=Qhy hd;have xD:=Qcd hd;clear h3 hd;go_wp2
     go_ret
     exact⟨rfl,HB.out⟩
  ·rw[Le (fun h=>h2 h.2.1)] at hr
   subst hr
   rcases QhQ h2 with hn|⟨rfl,hd⟩
   ·have hz:¬(n1:Int)=(o1:Int):=by omega
    have xD:((n1:Int) == (o1:Int))=false:=by simpa using hz
    clear h2 hn;go_wp2
    go_ret
    exact⟨rfl,HB.out⟩
   ·have hz:=Qhy hd;have xD:=Qcd hd;clear h2 hd;go_wp2
    go_ret
    exact⟨rfl,HB.out⟩
 ·rw[Le (fun h=>h1 h.1)] at hr
  subst hr;have hz:¬(er:Int)=0:=by omega
  have xD:((er:Int) == 0)=false:=by simpa using hz
  go_wp2
  go_ret
  exact⟨rfl,HB.out⟩
section
open Cv (RdC zl cU cov)
open Pl (pw)
def Tw(w:World)(g:Nat)(h:Int)(k:Nat):Prop:=w.heap[g]? = some (.cells #[.int .i64 h,.int .u64 k] 249 (0,0))
section
variable {w W:World} {g k:Nat} {h:Int}
theorem Tw.cells(t:Tw w g h k):w.cell? ⟨g,0,none⟩=some (.int .i64 h)∧w.cell? ⟨g,1,none⟩=some (.int .u64 k) :=
 ⟨by rw[cell_of_row w g 0 _ _ (0,0) t];rfl,by rw[cell_of_row w g 1 _ _ (0,0) t];rfl⟩
theorem Tw.fz(t:Tw w g h k)(j:Nat):w.frozen? ⟨g,j,none⟩=false:=frozen_of_row w g j _ _ t
theorem Tw.lt(t:Tw w g h k):g<w.heap.size:=(Array.getElem?_eq_some_iff.1 t).1
theorem Tw.same(t:Tw w g h k)(hb:W.heap[g]? = w.heap[g]?):Tw W g h k:=hb.trans t
theorem Tw.next(t:Tw w g h k)(hb:Bl w W):Tw W g h k:=t.same (hb.block g t.lt)
theorem QcE(w:World)(h:Int)(k:Nat):Tw (w.alloc (.cells #[.int .i64 h,.int .u64 k] 249)) w.heap.size h k:=LC w _
def putB(w:World)(g:Nat)(h:Int)(k:Nat):World:=(w.setCell ⟨g,0,none⟩ (.int .i64 h)).setCell ⟨g,1,none⟩ (.int .u64 k)
theorem Tw.put(t:Tw w g h k)(h':Int)(k':Nat):Tw (putB w g h' k') g h' k':=by
 have h0:=Lm w g 0 _ _ (.int .i64 h') t;exact Lm _ g 1 _ _ (.int .u64 k') h0
theorem QbD(w:World)(g:Nat)(h:Int)(k:Nat):ChT (fun x=>x=g) w (putB w g h k):=((ChT.refl (fun x=>x=g) w).set g 0 _ rfl).set g 1 _ rfl
end
theorem QbM(w:World)(h k:Nat)(hk:k<2^64)(r:Nat)(hr:sb k=r) :
  Zr 226 #[.agg #[.int .i64 h,.int .u64 k]] w (.agg #[.int .i64 h,.int .u64 r]):=by
 have ex:bits .xor .u64 (k:Int) 1=(r:Int):=by rw[<-hr,<-QpZ];exact bits_xor_u64_nat k 1 (by omega) (by decide)
 have t1:=QcE w (h:Int) k;have hb:=bal (Lb w.heap.size w) (.cells #[.int .i64 h,.int .u64 k] 249);have hz:(w.alloc (.cells #[.int .i64 h,.int .u64 k] 249)).heap.size=w.heap.size+1:=Ng ..;obtain⟨W,hW⟩:=Ze (w.alloc (.cells #[.int .i64 h,.int .u64 k] 249));rw[hW] at t1 hb hz;have t2:=QcE W 0 0;have xB:=bal (Lb W.heap.size W) (.cells #[.int .i64 0,.int .u64 ((0:Nat):Int)] 249);have xC:=t1.next xB;rw[show((0:Nat):Int)=0 from rfl] at xB xC
 have xA:Tw (W.alloc (.cells #[.int .i64 0,.int .u64 0] 249)) W.heap.size 0 0:=t2;obtain⟨W2,xE⟩:=Ze (W.alloc (.cells #[.int .i64 0,.int .u64 0] 249));rw[xE] at xA xB xC;rw[hz] at xA;obtain⟨c0,c1⟩:=xC.cells;obtain⟨d0,d1⟩:=xA.cells;have f0:=xA.fz 0;have f1:=xA.fz 1;have hp:=xA.put (h:Int) r;have xD:=QbD W2 (w.heap.size+1) (h:Int) r;unfold putB at hp xD;obtain⟨s0,s1⟩:=hp.cells;clear hk hr t2 t1
 go_enter func226,ntmps226;go_wp2;refine LD (v := .agg #[.int .i64 h,.int .u64 r]) (by simp[results,results226,go_sem,s0,s1]) rfl ⟨rfl,?_⟩
 exact(Qa hb xB).trans (xD.below (by rintro b rfl;omega))
structure JS(w:World)(s0:Nat)(v u:Value)(T:List (Nat×Nat))(P:LB):Prop where
 ct:w.heap[s0+1]? = some (.cells #[v] 187 (0,0))
 cp:w.heap[s0+2]? = some (.cells #[u] 22 (0,0))
 ot:Cv.YI w (s0+3) v (zl T)
 op:Qh w (s0+3) u P
section
variable {w W:World} {s0 q:Nat} {v u:Value} {T:List (Nat×Nat)} {P:LB}
theorem JS.lt(h:JS w s0 v u T P):s0+2<w.heap.size:=(Array.getElem?_eq_some_iff.1 h.cp).1
theorem JS.next(h:JS w s0 v u T P)(hb:Bl w W):JS W s0 v u T P:=by
 have hl:=h.lt;exact⟨(hb.block _ (by omega)).trans h.ct,(hb.block _ hl).trans h.cp,Y1 h.ot hb,Y1 h.op hb⟩
end
variable{T cap g m s:Nat}{xs ys:List Value}{ops:Array Oper}{o:Oper}{a:Act}{K:Act->World->Prop}{Q:Exit->Act->World->Prop}{E:Prop}
theorem QhJ(h:w.ownsRow B T s (.slice (Zp g) n cap) n (xs++ys))(hm:xs.length=m*s)(hl:m<=n):w.ownsRow B T s (.slice (Zp g) m cap) m xs:=by
 obtain⟨h1,h2⟩:=h;refine⟨hm,?_⟩
 rcases h2 with ⟨h2,_⟩|⟨g',cap',cur,hv,hg,hh,hc,hm2,hs,hx⟩
 ·cases h2
 ·cases hv;refine .inr ⟨g,cap,cur,rfl,hg,hh,by omega,hm2,hs,?_⟩
  have e:cur.toList.take (m*s)=(cur.toList.take (n*s)).take (m*s):=by
   rw[Iu]
   congr 1
   have:=LJ s hl;omega
  rw[e,hx,<-hm,I1]
theorem Qas{c:Nat}(h:w.ownsRow B T s (.slice ao m c) n xs):m=n:=by
 rcases h.2 with ⟨h2,h3⟩|⟨_,_,_,h2,_⟩
 ·cases h2;exact h3.symm
 ·cases h2;rfl
theorem Qfq{c:Nat}(h:w.ownsRow B T s (.slice ao m c) n xs)(hn:0<n):∃g,ao=Zp g∧B<=g∧g<w.heap.size:=by
 rcases h.2 with ⟨_,h3⟩|⟨g,_,_,h2,hg,hh,_⟩
 ·omega
 ·cases h2;exact⟨g,rfl,hg,(Array.getElem?_eq_some_iff.1 hh).1⟩
theorem QfS(w:World)(hgd:o.guard=none)
  (s x:Operand) (t:TypeId) (hop:o.op=Op.call { callee:=Callee.builtin Builtin.append,args:=#[s,x],argTypes:=#[t,t] })
  (B:Nat) (e:TypeId) (i:TypeInfo) (z:Value) (size bytes:Nat) (h1:prog.underlying t=some (.slice e)) (h2:prog.info? e=some i) (h3:i.zero=some z) (h4:i.size=size) (h5:i.bytes=bytes) (h6:z.cells.size=size) (h7:0<size)
  (v:Value) (n:Nat) (xs:List Value) (hs:a.eval s=v) (hown:w.ownsRow B e size v n xs) (ad:Addr) (m cap:Nat) (news:List Value) (hx:a.eval x= .slice (some ad) m cap) (hn:news.length=m*size) (hc:∀j u,news[j]? = some u->w.cell? (ad.add j)=some u) (h1c:∀u∈news,u.oneCell'=true)
  (b1:n+m<=maxLen) (b2:(n+m)*bytes<=140737488355328) (hB:B<=w.heap.size)
  (hK:∀v' w',w'.ownsRow B e size v' (n+m) (xs++news)->w.grownBy w' v.ownBlock->K (a.put o.dst v') w'):if Region.wanted o (yielded ops a.tmps)=true then Oper.wp prog o a w K Q else E:=by
 have hw:Region.wanted o (yielded ops a.tmps)=true:=by simp[Region.wanted,hgd]
 rw[Lf hw];obtain⟨v',w',xA,r1,r2,_⟩:=run_append_own (P:=prog) w B t o.type e i z size bytes h1 h2 h3 h4 h5 h6 h7 v n xs hown ad m cap news hn hc h1c b1 b2 hB;unfold Oper.wp;simp[execOp,hop,resolve,invoke,builtin,hs,hx,xA,Result.andThen];exact hK v' w' r1 r2
theorem Ql1(w:World)(hgd:o.guard=none)
  (s x:Operand) (hop:o.op=Op.call { callee:=Callee.builtin Builtin.append,args:=#[s,x],argTypes:=#[187,187] })
  (B:Nat) (v:Value) (T:List (Nat×Nat)) (hs:a.eval s=v) (hown:Cv.YI w B v (zl T)) (g h k:Nat) (hx:a.eval x= .slice (Zp g) 1 1) (hc:Tw w g (h:Int) k) (hl:T.length<=1000) (hB:B<=w.heap.size)
  (hK:∀v' w',Cv.YI w' B v' (zl (T++[(h,k)]))->w.grownBy w' v.ownBlock->K (a.put o.dst v') w'):if Region.wanted o (yielded ops a.tmps)=true then Oper.wp prog o a w K Q else E:=by
 obtain⟨i0,hi,xA,xB,xC⟩:=info_parts Cv.Tryz.infoB;obtain⟨c0,c1⟩:=hc.cells;refine QfS w hgd s x 187 hop B 249 i0 (.agg #[.int .i64 0,.int .u64 0]) 2 16 underlying187 hi xA xB xC rfl (by decide) v _ _ hs hown ⟨g,0,none⟩ 1 1 [.int .i64 h,.int .u64 k] hx rfl (fun j u hj=> ?_) (by intro u hu;simp at hu;rcases hu with rfl|rfl <;> rfl) (by rw[Cv.Ye];unfold maxLen;omega) (by rw[Cv.Ye];omega) hB (fun v' w' r1 r2=>hK v' w' ?_ r2)
 ·match j,hj with
  | 0,hj=>simp at hj;subst hj;simpa [Addr.add] using c0
  | 1,hj=>simp at hj;subst hj;simpa [Addr.add] using c1
 ·rw[Cv.QcI,Cv.YI,Cv.QdF,Lc];exact r1
theorem Ql2(w:World)(hgd:o.guard=none)
  (s x:Operand) (hop:o.op=Op.call { callee:=Callee.builtin Builtin.append,args:=#[s,x],argTypes:=#[22,22] })
  (B:Nat) (v:Value) (P:LB) (hs:a.eval s=v) (hown:Qh w B v P) (g:Nat) (d:BA) (hx:a.eval x= .slice (Zp g) 1 1) (hc:w.cell? ⟨g,0,none⟩=some (.string d)) (hl:P.length<=1000) (hB:B<=w.heap.size)
  (hK:∀v' w',Qh w' B v' (P++[d])->w.grownBy w' v.ownBlock->K (a.put o.dst v') w'):if Region.wanted o (yielded ops a.tmps)=true then Oper.wp prog o a w K Q else E:=by
 obtain⟨i0,hi,xA,xB,xC⟩:=info_parts Tryz.infoS;refine QfS w hgd s x 22 hop B 9 i0 (.string ByteArray.empty) 1 16 underlying22 hi xA xB xC rfl (by decide) v _ _ hs hown ⟨g,0,none⟩ 1 1 [.string d] hx rfl (fun j u hj=> ?_) (by intro u hu;simp at hu;rcases hu with rfl;rfl) (by unfold maxLen;omega) (by omega) hB (fun v' w' r1 r2=>hK v' w' ?_ r2)
 ·match j,hj with
  | 0,hj=>simp at hj;subst hj;simpa [Addr.add] using hc
 ·rw[Qh,LQ,Lc];exact r1
abbrev dgF(F:Nat->Nat->BA)(T:List (Nat×Nat)):LB:=T.map fun b=>F b.1 b.2
structure JL(w wr:World)(s0 q:Nat)(F:Nat->Nat->BA)(h k h' k':Nat)(v u:Value):Prop where
 js:JS wr s0 v u (cov 0 (k' * pw h')) (dgF F (cov 0 (k' * pw h')))
 tw:Tw wr q (h':Int) k'
 hv:∀g,v.ownBlock=some g->g<q
 en:(k'+1)*pw h'=(k+1)*pw h
 hh:h<=h'
 be:Below (s0+1) w wr
 hq:s0+2<q
section
variable {w wr W:World} {s0 q:Nat} {F:Nat->Nat->BA} {h k h' k':Nat} {v u:Value}
theorem JL.hu(j:JL w wr s0 q F h k h' k' v u):∀g,u.ownBlock=some g->g≠q:=Qll j.js.op j.tw (by decide)
theorem JL.next(j:JL w wr s0 q F h k h' k' v u)(hb:Bl wr W):JL w W s0 q F h k h' k' v u :=
 ⟨j.js.next hb,j.tw.next hb,j.hv,j.en,j.hh,j.be.trans (hb.mono (by have:=j.js.lt;omega)),j.hq⟩
end
variable{h k q s0:Nat}
theorem Qhu{v u:Value}{C:List (Nat×Nat)}{P:LB}(j:JS w s0 v u (C++[(h,k)]) (P++[d])):∃g cap gu cu,v= .slice (Zp g) (C.length+1) cap∧u= .slice (Zp gu) (P.length+1) cu∧C.length+1<=cap∧P.length+1<=cu∧w.cell? ⟨g,C.length*2,none⟩=some (.int .i64 h)∧w.cell? ⟨g,C.length*2+1,none⟩=some (.int .u64 k)∧w.cell? ⟨gu,P.length,none⟩=some (.string d):=by
 have o1:=j.ot;have o2:=j.op;obtain⟨ao,n,c,rfl⟩:=Cv.Qu o1;obtain⟨au,nu,cu,rfl⟩:=Cv.Qu o2;have l1:=Qas o1;have l2:=Qas o2;obtain⟨g,rfl,_,_⟩:=Qfq o1 (by rw[Cv.Ye,Lc];simp)
 obtain⟨gu,rfl,_,_⟩:=Qfq o2 (by rw[Lc];simp)
 rw[Cv.Ye,Lc,LK] at l1;rw[Lc,LK] at l2;subst l1 l2;have e1:=o1.cells (g:=g) rfl;have e2:=o2.cells (g:=gu) rfl;obtain⟨f1,f2⟩:=Cv.QjU (zl (C++[(h,k)])) C.length (h:Int) k (by rw[Cv.QcI,LI (by rw[Cv.Ye];exact La _),Cv.Ye,NL];rfl)
 have f1:=e1 _ _ f1;have f2:=e1 _ _ f2;have f3:=e2 P.length (.string d) (by rw[LQ,LI (by rw[LY];exact La _),LY,NL];rfl)
 rw[Addr.add_mid,Ll,LF] at f1 f2;rw[Addr.add_mid,Ll] at f3;have c1:C.length+1<=c:=by
  rcases o1.2 with ⟨h1,_⟩|⟨_,_,_,h1,_,_,h2,_⟩
  ·cases h1
  ·obtain⟨_,_,e3⟩:=IF h1;rw[Cv.Ye,Lc,LK,<-e3] at h2;exact h2
 have c2:P.length+1<=cu:=by
  rcases o2.2 with ⟨h1,_⟩|⟨_,_,_,h1,_,_,h2,_⟩
  ·cases h1
  ·obtain⟨_,_,e3⟩:=IF h1;rw[Lc,LK,<-e3] at h2;exact h2
 exact⟨g,c,gu,cu,rfl,rfl,c1,c2,f1,f2,f3⟩
theorem JL.up{wr:World}{F:Nat->Nat->BA}{h' a gu cu:Nat}(C:List (Nat×Nat))(hC:cov 0 (2*a*pw h')=C)(hl:(k+1)*pw h<=2^40)(j:JL w wr s0 q F h k h' (2*a+1) (.slice (Zp g) (C.length+1) cap) (.slice (Zp gu) (C.length+1) cu))(W:World)(hW:(((putB wr q ((h'+1:Nat):Int) a).setCell ⟨s0+1,0,none⟩ (.slice (Zp g) C.length cap)).setCell ⟨s0+2,0,none⟩ (.slice (Zp gu) C.length cu))=W) :
  JL w W s0 q F h k (h'+1) a (.slice (Zp g) C.length cap) (.slice (Zp gu) C.length cu):=by
 have xD:=j.en;have ht:cov 0 ((2*a+1)*pw h')=C++[(h',2*a)]:=by
  rw[<-hC];refine QdH h' a (Lr ?_ hl)
  rw[<-xD];exact LJ _ (by omega)
 have xJ:cov 0 (a*pw (h'+1))=C:=by rw[Cv.QE,hC]
 have xA:=j.js;rw[ht] at xA;have xH:=(LO xA.ot g rfl).1;have xI:=(LO xA.op gu rfl).1;have xO:g<q:=j.hv g rfl;have xK:gu≠q:=j.hu gu rfl;have hq:=j.hq;have xB:=QbD wr q ((h'+1:Nat):Int) a;obtain⟨W1,xG⟩:=Ze (putB wr q ((h'+1:Nat):Int) a);have xE:=j.tw.put ((h'+1:Nat):Int) a;rw[xG] at xB hW xE;have b1:∀b,b≠q->W1.heap[b]? = wr.heap[b]? := fun b hb=>xB.block b hb
 have c1:=(b1 (s0+1) (by omega)).trans xA.ct
 have c2:=(b1 (s0+2) (by omega)).trans xA.cp
 have x1:=Lm W1 (s0+1) 0 _ _ (.slice (Zp g) C.length cap) c1;obtain⟨W2,xC⟩:=Ze (W1.setCell ⟨s0+1,0,none⟩ (.slice (Zp g) C.length cap));have k2:ChT (fun b=>b=s0+1) W1 W2:=by rw[<-xC];exact(ChT.refl _ _).set (s0+1) 0 _ rfl
 rw[xC] at x1 hW;have xF:=(k2.block (s0+2) (by omega)).trans c2
 have x2:=Lm W2 (s0+2) 0 _ _ (.slice (Zp gu) C.length cu) xF;have k3:ChT (fun b=>b=s0+2) W2 W:=by rw[<-hW];exact(ChT.refl _ _).set (s0+2) 0 _ rfl
 rw[hW] at x2;have bb:∀b,b≠q->b≠s0+1->b≠s0+2->W.heap[b]? = wr.heap[b]? := fun b h1 h2 h3=>((k3.block b h3).trans (k2.block b h2)).trans (b1 b h1)
 have ot:Cv.YI W (s0+3) (.slice (Zp g) C.length cap) (zl C):=by
  have o:=xA.ot;rw[Cv.QcI,Cv.YI,Cv.QdF,Lc] at o;have o':=QhJ (n:=(zl C).length+1) (m:=(zl C).length) (by rw[Cv.Ye] at o ⊢;exact o) (Cv.QA (zl C)) (by omega)
  rw[Cv.Ye] at o';have o2:Cv.YI wr (s0+3) (.slice (Zp g) C.length cap) (zl C):=by
   show wr.ownsRow (s0+3) 249 2 _ (zl C).length (Cv.cB (zl C))
   rw[Cv.Ye];exact o'
  refine Qr o2 fun b hb _=> ?_
  cases hb;exact bb g (by omega) (by omega) (by omega)
 have op:Qh W (s0+3) (.slice (Zp gu) C.length cu) (dgF F C):=by
  have o:=xA.op;rw[dgF,LQ,Qh,LQ,Lc] at o;have o':=QhJ (n:=(dgF F C).length+1) (m:=(dgF F C).length) (by rw[LY] at o ⊢;exact o) (by rw[LY,Nd]) (by omega)
  rw[LY] at o';have o2:Qh wr (s0+3) (.slice (Zp gu) C.length cu) (dgF F C):=by
   show wr.ownsRow (s0+3) 9 1 _ (dgF F C).length ((dgF F C).map Value.string)
   rw[LY];exact o'
  refine Qr o2 fun b hb _=> ?_
  cases hb;exact bb gu xK (by omega) (by omega)
 refine⟨?_,?_,j.hv,?_,by have:=j.hh;omega,?_,hq⟩
 ·rw[xJ];exact⟨(k3.block (s0+1) (by omega)).trans x1,x2,ot,op⟩
 ·exact(xE.same (k2.block q (by omega))).same (k3.block q (by omega))
 ·rw[<-xD,Cv.QE,show 2*(a+1)=2*a+1+1 by omega]
 ·have xL:Below (s0+1) wr W1:=xB.below (by rintro b rfl;omega)
  have xM:Below (s0+1) W1 W2:=k2.below (by rintro b rfl;omega)
  have xN:Below (s0+1) W2 W:=k3.below (by rintro b rfl;omega)
  exact((j.be.trans xL).trans xM).trans xN
structure J0(W:World)(s0 q:Nat)(v u:Value)(C:List (Nat×Nat))(P:LB)(h k:Nat):Prop where
 js:JS W s0 v u C P
 tw:Tw W q (h:Int) k
 hv:∀g,v.ownBlock=some g->g≠q
 hq:s0+2<q
 hC:C.length<=1000
 hP:P.length<=1000
structure RJ(W:World)(s0 q:Nat)(v u:Value)(C:List (Nat×Nat))(P:LB)(h k:Nat)(x:BA)(b0 b1 b2 b3 b4 b5 b6 b7 b8 b9:Bool)(y0 y1 y2 y3 y4 y5 y6 y7:Value)(w:World):Prop where
 a0:b0=true->y0=v
 a1:b1=true->y1= .agg #[.int .i64 h,.int .u64 k]
 a2:b2=true -> ∃g,y2= .slice (Zp g) 1 1∧Tw w g (h:Int) k∧W.heap.size<=g
 a4:b4=true->y4=u
 a5:b5=true->y5= .string x
 a6:b6=true -> ∃g,y6= .slice (Zp g) 1 1∧w.heap[g]? = some (.cells #[.string x] 9 (0,0))∧W.heap.size<=g
 tw:Tw w q (h:Int) k
 n3:b3=false->Cv.YI w (s0+3) v (zl C)
 m3:b3=true->Cv.YI w (s0+3) y3 (zl (C++[(h,k)]))
 n7:b7=false->Qh w (s0+3) u P
 m7:b7=true->Qh w (s0+3) y7 (P++[x])
 c8:w.heap[s0+1]? = some (.cells #[bif b8 then y3 else v] 187 (0,0))
 c9:w.heap[s0+2]? = some (.cells #[bif b9 then y7 else u] 22 (0,0))
 be:Below (s0+1) W w
section
variable {W w w':World} {s0 q:Nat} {v u:Value} {C:List (Nat×Nat)} {P:LB} {h k:Nat} {x:BA} {b0 b1 b2 b3 b4 b5 b6 b7 b8 b9:Bool} {y0 y1 y2 y3 y4 y5 y6 y7:Value}
theorem RJ.lt(r:RJ W s0 q v u C P h k x b0 b1 b2 b3 b4 b5 b6 b7 b8 b9 y0 y1 y2 y3 y4 y5 y6 y7 w):s0+2<w.heap.size:=(Array.getElem?_eq_some_iff.1 r.c9).1
theorem RJ.keep(r:RJ W s0 q v u C P h k x b0 b1 b2 b3 b4 b5 b6 b7 b8 b9 y0 y1 y2 y3 y4 y5 y6 y7 w)(hb:Bl w w'):RJ W s0 q v u C P h k x b0 b1 b2 b3 b4 b5 b6 b7 b8 b9 y0 y1 y2 y3 y4 y5 y6 y7 w':=by
 have hl:=r.lt;refine⟨r.a0,r.a1,fun e=> ?_,r.a4,r.a5,fun e=> ?_,r.tw.next hb,fun e=>Y1 (r.n3 e) hb,fun e=>Y1 (r.m3 e) hb,fun e=>Y1 (r.n7 e) hb,fun e=>Y1 (r.m7 e) hb,(hb.block _ (by omega)).trans r.c8,(hb.block _ hl).trans r.c9,r.be.trans (hb.mono (by omega))⟩
 ·obtain⟨g,e1,e2,e3⟩:=r.a2 e;exact⟨g,e1,e2.next hb,e3⟩
 ·obtain⟨g,e1,e2,e3⟩:=r.a6 e;exact⟨g,e1,(hb.block g (Array.getElem?_eq_some_iff.1 e2).1).trans e2,e3⟩
theorem QoO{Z:World}{B' T' s' n':Nat}{a b:Value}(o:Z.ownsRow B T s a n xs)(o':Z.ownsRow B' T' s' b n' ys)(hT:T≠T')(h1:a.ownBlock=some g)(h2:b.ownBlock=some g):False:=by
 obtain⟨_,c,hc⟩:=QaZ o h1;obtain⟨_,c',xA⟩:=QaZ o' h2;rw[hc] at xA;injection xA with xA
 injection xA with _ h2 _
 exact hT h2
theorem RJ.app3(j:J0 W s0 q v u C P h k)(r:RJ W s0 q v u C P h k x b0 b1 b2 false b4 b5 b6 false false false y0 y1 y2 y3 y4 y5 y6 y7 w)(v':Value)(g:w.grownBy w' v.ownBlock)(o:Cv.YI w' (s0+3) v' (zl (C++[(h,k)]))):RJ W s0 q v u C P h k x b0 b1 b2 true b4 b5 b6 false false false y0 y1 y2 v' y4 y5 y6 y7 w':=by
 have hl:=r.lt;have o0:=r.n3 rfl;have u0:=r.n7 rfl;have lo:∀k,v.ownBlock=some k->s0+3<=k∧k<W.heap.size:=fun k hk=>LO j.js.ot k hk
 have hb:∀b,b<w.heap.size->some b≠v.ownBlock->w'.heap[b]? = w.heap[b]? := fun b h1 h2=>g.block b h1 h2
 refine⟨r.a0,r.a1,fun e=> ?_,r.a4,r.a5,fun e=> ?_,r.tw.same (hb q r.tw.lt fun e=>j.hv q e.symm rfl),(fun e=>by cases e),fun _=>o,fun _=>Qr u0 fun b h1 _=>hb b (LO u0 b h1).2 fun e=>QoO o0 u0 (by decide) e.symm h1,(fun e=>by cases e),(hb _ (by omega) fun e=>by have:=lo _ e.symm;omega).trans r.c8,(hb _ hl fun e=>by have:=lo _ e.symm;omega).trans r.c9,r.be.trans ((Lb _ _).grown g (by omega) fun k hk=>by have:=lo k hk;omega)⟩
 ·obtain⟨g',e1,e2,e3⟩:=r.a2 e;exact⟨g',e1,e2.same (hb g' e2.lt fun e=>by have:=lo _ e.symm;omega),e3⟩
 ·obtain⟨g',e1,e2,e3⟩:=r.a6 e;exact⟨g',e1,(hb g' (Array.getElem?_eq_some_iff.1 e2).1 fun e=>by have:=lo _ e.symm;omega).trans e2,e3⟩
theorem RJ.app7(j:J0 W s0 q v u C P h k)(r:RJ W s0 q v u C P h k x b0 b1 b2 true b4 b5 b6 false false false y0 y1 y2 y3 y4 y5 y6 y7 w)(u':Value)(g:w.grownBy w' u.ownBlock)(o:Qh w' (s0+3) u' (P++[x])):RJ W s0 q v u C P h k x b0 b1 b2 true b4 b5 b6 true false false y0 y1 y2 y3 y4 y5 y6 u' w':=by
 have hl:=r.lt;have o0:=r.m3 rfl;have u0:=r.n7 rfl;have lo:∀k,u.ownBlock=some k->s0+3<=k∧k<W.heap.size:=fun k hk=>LO j.js.op k hk
 have hb:∀b,b<w.heap.size->some b≠u.ownBlock->w'.heap[b]? = w.heap[b]? := fun b h1 h2=>g.block b h1 h2
 refine⟨r.a0,r.a1,fun e=> ?_,r.a4,r.a5,fun e=> ?_,r.tw.same (hb q r.tw.lt fun e=>Qll u0 r.tw (by decide) q e.symm rfl),(fun e=>by cases e),fun _=>Qr o0 fun b h1 _=>hb b (LO o0 b h1).2 fun e=>QoO o0 u0 (by decide) h1 e.symm,(fun e=>by cases e),fun _=>o,(hb _ (by omega) fun e=>by have:=lo _ e.symm;omega).trans r.c8,(hb _ hl fun e=>by have:=lo _ e.symm;omega).trans r.c9,r.be.trans ((Lb _ _).grown g (by omega) fun k hk=>by have:=lo k hk;omega)⟩
 ·obtain⟨g',e1,e2,e3⟩:=r.a2 e;exact⟨g',e1,e2.same (hb g' e2.lt fun e=>by have:=lo _ e.symm;omega),e3⟩
 ·obtain⟨g',e1,e2,e3⟩:=r.a6 e;exact⟨g',e1,(hb g' (Array.getElem?_eq_some_iff.1 e2).1 fun e=>by have:=lo _ e.symm;omega).trans e2,e3⟩
theorem RJ.put8(j:J0 W s0 q v u C P h k)(r:RJ W s0 q v u C P h k x b0 b1 b2 true b4 b5 b6 true false false y0 y1 y2 y3 y4 y5 y6 y7 w):RJ W s0 q v u C P h k x b0 b1 b2 true b4 b5 b6 true true false y0 y1 y2 y3 y4 y5 y6 y7 (w.setCell ⟨s0+1,0,none⟩ y3):=by
 have hq:=j.hq;have hW:=j.js.lt;have xA:=(ChT.refl (fun b=>b=s0+1) w).set (s0+1) 0 y3 rfl
 refine⟨r.a0,r.a1,fun e=> ?_,r.a4,r.a5,fun e=> ?_,r.tw.same (xA.block q (by omega)),(fun e=>by cases e),fun _=>Qr (r.m3 rfl) fun b _ hb=>xA.block b (by omega),(fun e=>by cases e),fun _=>Qr (r.m7 rfl) fun b _ hb=>xA.block b (by omega),Lm w (s0+1) 0 _ _ y3 r.c8,(xA.block (s0+2) (by omega)).trans r.c9,r.be.trans (xA.below (by rintro b rfl;omega))⟩
 ·obtain⟨g',e1,e2,e3⟩:=r.a2 e;exact⟨g',e1,e2.same (xA.block g' (by omega)),e3⟩
 ·obtain⟨g',e1,e2,e3⟩:=r.a6 e;exact⟨g',e1,(xA.block g' (by omega)).trans e2,e3⟩
theorem RJ.put9(j:J0 W s0 q v u C P h k)(r:RJ W s0 q v u C P h k x b0 b1 b2 true b4 b5 b6 true true false y0 y1 y2 y3 y4 y5 y6 y7 w):RJ W s0 q v u C P h k x b0 b1 b2 true b4 b5 b6 true true true y0 y1 y2 y3 y4 y5 y6 y7 (w.setCell ⟨s0+2,0,none⟩ y7):=by
 have hq:=j.hq;have hW:=j.js.lt;have xA:=(ChT.refl (fun b=>b=s0+2) w).set (s0+2) 0 y7 rfl
 refine⟨r.a0,r.a1,fun e=> ?_,r.a4,r.a5,fun e=> ?_,r.tw.same (xA.block q (by omega)),(fun e=>by cases e),fun _=>Qr (r.m3 rfl) fun b _ hb=>xA.block b (by omega),(fun e=>by cases e),fun _=>Qr (r.m7 rfl) fun b _ hb=>xA.block b (by omega),(xA.block (s0+1) (by omega)).trans r.c8,Lm w (s0+2) 0 _ _ y7 r.c9,r.be.trans (xA.below (by rintro b rfl;omega))⟩
 ·obtain⟨g',e1,e2,e3⟩:=r.a2 e;exact⟨g',e1,e2.same (xA.block g' (by omega)),e3⟩
 ·obtain⟨g',e1,e2,e3⟩:=r.a6 e;exact⟨g',e1,(xA.block g' (by omega)).trans e2,e3⟩
end
structure RF(W:World)(s0 q:Nat)(v u:Value)(C:List (Nat×Nat))(P:LB)(h k:Nat)(x:BA)(L:Nat->Bool)(a:Act)(w:World):Prop where
 sz:a.tmps.size=53
 df:a.defers=[]
 i1:a.tmps.getD 1 undef= .string x
 i2:a.tmps.getD 2 undef= .pointer (some ⟨s0+1,0,none⟩)
 i4:a.tmps.getD 4 undef= .pointer (some ⟨s0+2,0,none⟩)
 i5:a.tmps.getD 5 undef=Pq q
 rj:RJ W s0 q v u C P h k x (L 0) (L 1) (L 2) (L 3) (L 4) (L 5) (L 6) (L 7) (L 8) (L 9) (a.tmps.getD 45 undef) (a.tmps.getD 46 undef) (a.tmps.getD 47 undef) (a.tmps.getD 48 undef) (a.tmps.getD 49 undef) (a.tmps.getD 50 undef) (a.tmps.getD 51 undef) (a.tmps.getD 52 undef) w
section
variable {W w w':World} {s0 q:Nat} {v u:Value} {C:List (Nat×Nat)} {P:LB} {h k:Nat} {x:BA} {L L':Nat->Bool} {a:Act}
theorem QD(a:Act)(d t:Nat)(y:Value)(hd:d<a.tmps.size):(a.put (some d) y).tmps.getD t undef=if t=d then y else a.tmps.getD t undef:=by
 by_cases e:t=d
 ·subst e;rw[Lf rfl,Qb3 a t y hd]
 ·rw[Le e,UL a d t y (Ne.symm e)]
theorem RF.put(f:RF W s0 q v u C P h k x L a w)(d:Nat)(h1:44<d)(h2:d<53)(y:Value)(r:RJ W s0 q v u C P h k x (L' 0) (L' 1) (L' 2) (L' 3) (L' 4) (L' 5) (L' 6) (L' 7) (L' 8) (L' 9) (if 45=d then y else a.tmps.getD 45 undef) (if 46=d then y else a.tmps.getD 46 undef) (if 47=d then y else a.tmps.getD 47 undef) (if 48=d then y else a.tmps.getD 48 undef) (if 49=d then y else a.tmps.getD 49 undef) (if 50=d then y else a.tmps.getD 50 undef) (if 51=d then y else a.tmps.getD 51 undef) (if 52=d then y else a.tmps.getD 52 undef) w'):RF W s0 q v u C P h k x L' (a.put (some d) y) w':=by
 have hs:d<a.tmps.size:=by rw[f.sz];exact h2
 refine⟨by simp[Act.put,f.sz],f.df,?_,?_,?_,?_,?_⟩
 ·rw[QD a d 1 y hs,Le (by omega)];exact f.i1
 ·rw[QD a d 2 y hs,Le (by omega)];exact f.i2
 ·rw[QD a d 4 y hs,Le (by omega)];exact f.i4
 ·rw[QD a d 5 y hs,Le (by omega)];exact f.i5
 ·rw[QD a d 45 y hs,QD a d 46 y hs,QD a d 47 y hs,QD a d 48 y hs,QD a d 49 y hs,QD a d 50 y hs,QD a d 51 y hs,QD a d 52 y hs];exact r
end
section
variable {W:World} {s0 q:Nat} {v u:Value} {C:List (Nat×Nat)} {P:LB} {h k:Nat} {x:BA} {Q:Exit->Act->World->Prop} {ops:List Oper} {ty:TypeId} {ps:String} {af:Array Edge}
theorem Yi{L:Nat->Bool}{i j:Nat}(hcl:∀i k,L i=true->dep ops i k=true->L k=true)(hj:L j=false)(hd:dep ops i j=true):L i=false:=by
 cases h:L i with
 | false=>rfl
 | true=>rw[hcl i j h hd] at hj;cases hj
theorem e0(hd:dep ops 8 0=true):YF prog Q ops (RF W s0 q v u C P h k x) 0 { dst:=some 45,op:=Op.load 187 (Operand.tmp 2),type:=ty,pos:=ps,after:=af,guard:=none } := by
 intro L a w K hI hj hcl hdep hK;have r:=hI.rj;have h8:=Yi hcl hj hd;have c:=cell_of_one r.c8;rw[h8,cond_false] at c;have t2:=hI.i2
 show Oper.wp _ _ a w K _
 go_simp
 exact hK _ _ (hI.put 45 (by decide) (by decide) v ⟨fun _=>rfl,r.a1,r.a2,r.a4,r.a5,r.a6,r.tw,r.n3,r.m3,r.n7,r.m7,r.c8,r.c9,r.be⟩)
theorem e1:YF prog Q ops (RF W s0 q v u C P h k x) 1 { dst:=some 46,op:=Op.load 249 (Operand.tmp 5),type:=ty,pos:=ps,after:=af,guard:=none } := by
 intro L a w K hI hj hcl hdep hK;have r:=hI.rj;obtain⟨c0,c1⟩:=r.tw.cells;have t5:=hI.i5
 show Oper.wp _ _ a w K _
 go_simp
 exact hK _ _ (hI.put 46 (by decide) (by decide) _ ⟨r.a0,fun _=>rfl,r.a2,r.a4,r.a5,r.a6,r.tw,r.n3,r.m3,r.n7,r.m7,r.c8,r.c9,r.be⟩)
theorem e2(hd:(af.toList.any fun e=>e.on == 1 && Region.binds .any e)=true):YF prog Q ops (RF W s0 q v u C P h k x) 2 { dst:=some 47,op:=Op.buildSlice 187 1 #[(0,Operand.tmp 46)],type:=ty,pos:=ps,after:=af,guard:=none } := by
 intro L a w K hI hj hcl hdep hK;have r:=hI.rj;have xA:=r.a1 (hdep 1 hd);have u46:a.tmps[46]?.getD undef= .agg #[.int .i64 h,.int .u64 k]:=by rw[<-Array.getD_eq_getD_getElem?];exact xA
 have hb:=bal (Lb w.heap.size w) (.cells #[.int .i64 h,.int .u64 k] 249);have r':=r.keep hb
 show Oper.wp _ _ a w K _
 go_simp
 exact hK _ _ (hI.put 47 (by decide) (by decide) _ ⟨r'.a0,r'.a1,fun _=>⟨_,rfl,QcE w _ _,r.be.size⟩,r'.a4,r'.a5,r'.a6,r'.tw,r'.n3,r'.m3,r'.n7,r'.m7,r'.c8,r'.c9,r'.be⟩)
theorem e3(j:J0 W s0 q v u C P h k)(h0:(af.toList.any fun e=>e.on == 0 && Region.binds .any e)=true)(h2:(af.toList.any fun e=>e.on == 2 && Region.binds .any e)=true)(d7:dep ops 7 3=true)(d8:dep ops 8 3=true)(d9:dep ops 9 3=true):YF prog Q ops (RF W s0 q v u C P h k x) 3 { dst:=some 48,op:=Op.call { callee:=Callee.builtin Builtin.append,args:=#[Operand.tmp 45,Operand.tmp 47],argTypes:=#[187,187] },type:=ty,pos:=ps,after:=af,guard:=none } := by
 intro L a w K hI hj hcl hdep hK;have r:=hI.rj;have xB:=r.a0 (hdep 0 h0);obtain⟨g,xC,xA,_⟩:=r.a2 (hdep 2 h2);rw[hj,Yi hcl hj d7,Yi hcl hj d8,Yi hcl hj d9] at r;have hl:=r.lt;have st:=Ql1 w (ops:=#[]) (o := { dst:=some 48,op:=Op.call { callee:=Callee.builtin Builtin.append,args:=#[Operand.tmp 45,Operand.tmp 47],argTypes:=#[187,187] },type:=ty,pos:=ps,after:=af,guard:=none }) (a:=a) (K:=K) (Q:=Q) (E:=False) rfl (Operand.tmp 45) (Operand.tmp 47) rfl (s0+3) v C xB (r.n3 rfl) g h k xC xA j.hC hl (fun v' w' o g'=>hK _ _ (hI.put 48 (by decide) (by decide) v' (by
  have r':=r.app3 j v' g' o
  show RJ W s0 q v u C P h k x (L 0) (L 1) (L 2) true (L 4) (L 5) (L 6) (L 7) (L 8) (L 9) _ _ _ v' _ _ _ _ w'
  rw[Yi hcl hj d7,Yi hcl hj d8,Yi hcl hj d9];exact r')))
 have hw:Region.wanted { dst:=some 48,op:=Op.call { callee:=Callee.builtin Builtin.append,args:=#[Operand.tmp 45,Operand.tmp 47],argTypes:=#[187,187] },type:=ty,pos:=ps,after:=af,guard:=none } (yielded #[] a.tmps)=true:=by simp[Region.wanted]
 rw[Lf hw] at st;exact st
theorem e4(hd:dep ops 9 4=true):YF prog Q ops (RF W s0 q v u C P h k x) 4 { dst:=some 49,op:=Op.load 22 (Operand.tmp 4),type:=ty,pos:=ps,after:=af,guard:=none } := by
 intro L a w K hI hj hcl hdep hK;have r:=hI.rj;have h8:=Yi hcl hj hd;have c:=cell_of_one r.c9;rw[h8,cond_false] at c;have t2:=hI.i4
 show Oper.wp _ _ a w K _
 go_simp
 exact hK _ _ (hI.put 49 (by decide) (by decide) u ⟨r.a0,r.a1,r.a2,fun _=>rfl,r.a5,r.a6,r.tw,r.n3,r.m3,r.n7,r.m7,r.c8,r.c9,r.be⟩)
theorem e5:YF prog Q ops (RF W s0 q v u C P h k x) 5 { dst:=some 50,op:=Op.move (Operand.tmp 1),type:=ty,pos:=ps,after:=af,guard:=none } := by
 intro L a w K hI hj hcl hdep hK;have r:=hI.rj;have t2:=hI.i1
 show Oper.wp _ _ a w K _
 go_simp
 exact hK _ _ (hI.put 50 (by decide) (by decide) _ ⟨r.a0,r.a1,r.a2,r.a4,fun _=>rfl,r.a6,r.tw,r.n3,r.m3,r.n7,r.m7,r.c8,r.c9,r.be⟩)
theorem e6(hd:(af.toList.any fun e=>e.on == 5 && Region.binds .any e)=true):YF prog Q ops (RF W s0 q v u C P h k x) 6 { dst:=some 51,op:=Op.buildSlice 22 1 #[(0,Operand.tmp 50)],type:=ty,pos:=ps,after:=af,guard:=none } := by
 intro L a w K hI hj hcl hdep hK;have r:=hI.rj;have xA:=r.a5 (hdep 5 hd);have u46:a.tmps[50]?.getD undef= .string x:=by rw[<-Array.getD_eq_getD_getElem?];exact xA
 have hb:=bal (Lb w.heap.size w) (.cells #[.string x] 9);have r':=r.keep hb
 show Oper.wp _ _ a w K _
 go_simp
 exact hK _ _ (hI.put 51 (by decide) (by decide) _ ⟨r'.a0,r'.a1,r'.a2,r'.a4,r'.a5,fun _=>⟨_,rfl,LC w _,r.be.size⟩,r'.tw,r'.n3,r'.m3,r'.n7,r'.m7,r'.c8,r'.c9,r'.be⟩)
theorem e7(j:J0 W s0 q v u C P h k)(h3:(af.toList.any fun e=>e.on == 3 && Region.binds .any e)=true)(h4:(af.toList.any fun e=>e.on == 4 && Region.binds .any e)=true)(h6:(af.toList.any fun e=>e.on == 6 && Region.binds .any e)=true)(d8:dep ops 8 7=true)(d9:dep ops 9 7=true):YF prog Q ops (RF W s0 q v u C P h k x) 7 { dst:=some 52,op:=Op.call { callee:=Callee.builtin Builtin.append,args:=#[Operand.tmp 49,Operand.tmp 51],argTypes:=#[22,22] },type:=ty,pos:=ps,after:=af,guard:=none } := by
 intro L a w K hI hj hcl hdep hK;have r:=hI.rj;have xB:=r.a4 (hdep 4 h4);obtain⟨g,xC,xA,_⟩:=r.a6 (hdep 6 h6);rw[hj,hdep 3 h3,Yi hcl hj d8,Yi hcl hj d9] at r;have hl:=r.lt;have st:=Ql2 w (ops:=#[]) (o := { dst:=some 52,op:=Op.call { callee:=Callee.builtin Builtin.append,args:=#[Operand.tmp 49,Operand.tmp 51],argTypes:=#[22,22] },type:=ty,pos:=ps,after:=af,guard:=none }) (a:=a) (K:=K) (Q:=Q) (E:=False) rfl (Operand.tmp 49) (Operand.tmp 51) rfl (s0+3) u P xB (r.n7 rfl) g x xC (cell_of_one xA) j.hP hl (fun v' w' o g'=>hK _ _ (hI.put 52 (by decide) (by decide) v' (by
  have r':=r.app7 j v' g' o
  show RJ W s0 q v u C P h k x (L 0) (L 1) (L 2) (L 3) (L 4) (L 5) (L 6) true (L 8) (L 9) _ _ _ _ _ _ _ v' w'
  rw[hdep 3 h3,Yi hcl hj d8,Yi hcl hj d9];exact r')))
 have hw:Region.wanted { dst:=some 52,op:=Op.call { callee:=Callee.builtin Builtin.append,args:=#[Operand.tmp 49,Operand.tmp 51],argTypes:=#[22,22] },type:=ty,pos:=ps,after:=af,guard:=none } (yielded #[] a.tmps)=true:=by simp[Region.wanted]
 rw[Lf hw] at st;exact st
theorem e8(j:J0 W s0 q v u C P h k)(h3:(af.toList.any fun e=>e.on == 3 && Region.binds .any e)=true)(h7:(af.toList.any fun e=>e.on == 7 && Region.binds .any e)=true)(d9:dep ops 9 8=true):YF prog Q ops (RF W s0 q v u C P h k x) 8 { dst:=none,op:=Op.store 187 (Operand.tmp 2) (Operand.tmp 48),type:=ty,pos:=ps,after:=af,guard:=none } := by
 intro L a w K hI hj hcl hdep hK;have r:=hI.rj;rw[hj,hdep 3 h3,hdep 7 h7,Yi hcl hj d9] at r;have c:=cell_of_one r.c8;rw[cond_false] at c;have fz:=free_of_one r.c8;have t2:=hI.i2;obtain⟨va,vn,vc,xA⟩:=Cv.Qu (r.m3 rfl);have r':=r.put8 j;rw[xA] at r'
 show Oper.wp _ _ a w K _
 go_simp
 refine hK undef _ ⟨hI.sz,hI.df,hI.i1,hI.i2,hI.i4,hI.i5,?_⟩
 show RJ W s0 q v u C P h k x (L 0) (L 1) (L 2) (L 3) (L 4) (L 5) (L 6) (L 7) true (L 9) _ _ _ _ _ _ _ _ _
 rw[hdep 3 h3,hdep 7 h7,Yi hcl hj d9];rw[<-xA] at r';rw[<-xA];exact r'
theorem e9(j:J0 W s0 q v u C P h k)(h3:(af.toList.any fun e=>e.on == 3 && Region.binds .any e)=true)(h7:(af.toList.any fun e=>e.on == 7 && Region.binds .any e)=true)(h8:(af.toList.any fun e=>e.on == 8 && Region.binds .any e)=true):YF prog Q ops (RF W s0 q v u C P h k x) 9 { dst:=none,op:=Op.store 22 (Operand.tmp 4) (Operand.tmp 52),type:=ty,pos:=ps,after:=af,guard:=none } := by
 intro L a w K hI hj hcl hdep hK;have r:=hI.rj;rw[hj,hdep 3 h3,hdep 7 h7,hdep 8 h8] at r;have c:=cell_of_one r.c9;rw[cond_false] at c;have fz:=free_of_one r.c9;have t2:=hI.i4;obtain⟨va,vn,vc,xA⟩:=Cv.Qu (r.m7 rfl);have r':=r.put9 j;rw[xA] at r'
 show Oper.wp _ _ a w K _
 go_simp
 refine hK undef _ ⟨hI.sz,hI.df,hI.i1,hI.i2,hI.i4,hI.i5,?_⟩
 show RJ W s0 q v u C P h k x (L 0) (L 1) (L 2) (L 3) (L 4) (L 5) (L 6) (L 7) (L 8) true _ _ _ _ _ _ _ _ _
 rw[hdep 3 h3,hdep 7 h7,hdep 8 h8];rw[<-xA] at r';rw[<-xA];exact r'
end
variable{C:List (Nat×Nat)}{P:LB}
theorem QfG{v u:Value}(j:J0 W s0 q v u C P h k)(sz:a.tmps.size=53)(df:a.defers=[])(i1:a.tmps.getD 1 undef= .string x)(i2:a.tmps.getD 2 undef= .pointer (some ⟨s0+1,0,none⟩))(i4:a.tmps.getD 4 undef= .pointer (some ⟨s0+2,0,none⟩))(i5:a.tmps.getD 5 undef=Pq q)(hb:Bl W w):RF W s0 q v u C P h k x (fun _=>false) a w:=by
 have hl:=j.js.lt;have js:=j.js.next hb;exact⟨sz,df,i1,i2,i4,i5,(fun e=>by cases e),(fun e=>by cases e),(fun e=>by cases e),(fun e=>by cases e),(fun e=>by cases e),(fun e=>by cases e),j.tw.next hb,fun _=>js.ot,(fun e=>by cases e),fun _=>js.op,(fun e=>by cases e),js.ct,js.cp,hb.mono (by omega)⟩
theorem QlD{v u:Value}{L:Nat->Bool}(f:RF W s0 q v u C P h k x L a w)(hL:∀k,k<10->L k=true):∃v' u',JS w s0 v' u' (C++[(h,k)]) (P++[x])∧Below (s0+1) W w:=by
 have r:=f.rj;rw[hL 3 (by decide),hL 7 (by decide),hL 8 (by decide),hL 9 (by decide)] at r
 exact⟨_,_,⟨r.c8,r.c9,r.m3 rfl,r.m7 rfl⟩,r.be⟩
end
end Go.Proofs.YtoblgjledefdbaaGreatDoor
