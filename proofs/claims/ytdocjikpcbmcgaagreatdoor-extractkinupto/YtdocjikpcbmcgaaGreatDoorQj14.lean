/- Own work. -/
import Derived.Test.YtdocjikpcbmcgaaGreatDoorQj13
set_option maxRecDepth 100000
set_option maxHeartbeats 1000000
namespace Go.Proofs.YtdocjikpcbmcgaaGreatDoor
open Go.RowKit
attribute [local go_sem ↓] Go.wp_at_zero Go.wp_at_succ
theorem QiO(w:World)(kd k:Int)(old size:Nat)(sa:OA)(sb so sc:Nat)(S:List Nat)(hs:RdU w sa sb so S.length S)(hm:S.length<=17592186044416)(da:OA)(dn dc:Nat)(ca:OA)(cb co cn cc:Nat)(l:List (Nat×BA))(hc:RdK w ca cb co cn l)(r:Bool)(hr:decide ((kd=1∨kd=2)∧S=ixs l)=r) :
  Zr 28 #[vP kd k old size (.slice sa S.length sc) (.slice da dn dc),.slice ca cn cc] w (.bool r):=by
 obtain⟨W0,hW0,h6,hb0,_⟩:=Yu w (.int .i64 kd) (.int .i64 k) (.int .u64 (old:Int)) (.int .u64 (size:Int)) (.slice sa S.length sc) (.slice da dn dc);obtain⟨m0,m1,m2,m3,m4,m5⟩:=h6.cells;have HA:Hid (∀q,decide (S=ixs l)=q->Zr 62 #[.slice sa S.length sc,.slice ca cn cc] W0 (.bool q)):=fun q hq=>QgL W0 sa sb so sc S (hs.next hb0) hm ca cb co cn cc l (hc.next hb0) q hq
 clear hs hc hm h6;unfold vP
 by_cases h1:kd=1
 ·subst h1;have HA':=HA.out r (by rw[<-hr];simp)
  clear hr HA
  go_enter Tryz.func28,Tryz.ntmps28
  go_upto_region 1 with (fail)
  try rw[hW0]
  clear hW0
  go_wp2_with (go_at_call 62;with_reducible refine HA'.mono ?_;rintro e w1 ⟨rfl,hb1⟩)
  go_ret
  exact⟨rfl,Qa hb0 hb1⟩
 ·have h1b:(kd == 1)=false:=by simpa using h1
  by_cases h2:kd=2
  ·subst h2;have HA':=HA.out r (by rw[<-hr];simp)
   clear hr HA
   go_enter Tryz.func28,Tryz.ntmps28
   go_upto_region 1 with (fail)
   try rw[hW0]
   clear hW0
   go_wp2_with (go_at_call 62;with_reducible refine HA'.mono ?_;rintro e w1 ⟨rfl,hb1⟩)
   go_ret
   exact⟨rfl,Qa hb0 hb1⟩
  ·have h2b:(kd == 2)=false:=by simpa using h2
   obtain rfl:false=r:=by rw[<-hr];exact(decide_eq_false fun h=>h.1.elim h1 h2).symm
   clear hr HA
   go_enter Tryz.func28,Tryz.ntmps28
   go_upto_region 1 with (fail)
   try rw[hW0]
   clear hW0;go_wp2
   go_ret
   exact⟨rfl,hb0⟩
theorem QjU(l:List (Nat×BA)){j:Nat}(h:j<l.length):vls (l.take (j+1))=vls (l.take j)++[(l.getD j noC).2]:=by
 unfold vls;rw[NA,LK,La,Lc h];rfl
theorem QfR(w:World)(ca:OA)(cb co cn cc:Nat)(l:List (Nat×BA))(hc:RdK w ca cb co cn l)(hm:cn<=8796093021952) :
  Calls Tryz.prog 30 #[.slice ca cn cc] w fun e w' => ∃v,e = .returned v∧Qk w' w.heap.size v (vls l)∧Zb w w':=by
 have HR:Hid (∀W,Zb w W->RdK W ca cb co cn l):=fun W hb=>hc.next hb
 have HL:Hid (l.length=cn ∧ ∀c∈l,c.2.size<=9223372036854775807):=⟨hc.hl,hc.sz⟩;have hM:=Qmy w cn (by omega)
 have hO:=Qjb w cn (by omega)
 have hm5:(cn:Int)<=8796093021952:=by omega
 have hb0:=bal (Below.refl w.heap.size w) (.cells (madeCells #[.string ByteArray.empty] cn) 9);obtain⟨W0,hW0⟩:=Ze (w.alloc (.cells (madeCells #[.string ByteArray.empty] cn) 9));rw[hW0] at hM hO hb0;have HS:Hid (Qk W0 w.heap.size (.slice (some ⟨w.heap.size,0,none⟩) 0 cn) []∧Zb w W0):=⟨hO,hb0⟩;clear hc hm hO hb0 hW0
 go_enter Tryz.func30,Tryz.ntmps30;go_wp2
 go_loopg [3,11] cn (fun g v i wr => ∃k:Nat,k<=cn∧g=cn - k∧i = .int .i64 (k:Int)∧Qk wr w.heap.size v (vls (l.take k))∧Zb w wr)
 case atStart =>
  go_light;exact⟨0,Lf _,rfl,rfl,HS.out.1,HS.out.2⟩
 case round =>
  obtain⟨k,hk,rfl,rfl,ho,hb⟩:=hrel;have hk0:(0:Int)<=(k:Int):=Le _
  by_cases hlt:k<cn
  ·have r2:=HR.out wr hb;obtain rfl:=r2.ptr (by omega)
   obtain⟨c1,c2⟩:=r2.at hlt;have hz:(k:Int)<(cn:Int):=by omega
   have HV:Hid (vls (l.take (k+1))=vls (l.take k)++[(l.getD k noC).2]∧(l.getD k noC).2.size<=9223372036854775807):=⟨QjU l (by have:=HL.out.1;omega),by
    have hk':k<l.length:=by have:=HL.out.1;omega
    refine HL.out.2 _ ?_
    rw[La,Lc hk'];exact LO _⟩
   have HLn:Hid ((vls (l.take k)).length<=8796093021952):=by
    show(vls (l.take k)).length<=8796093021952
    rw[Ln,Lv];omega
   obtain⟨x,hx⟩:=Ze ((l.getD k noC).1);obtain⟨y,hy⟩:=Ze ((l.getD k noC).2);rw[hx] at c1;rw[hy] at c2 HV;have H0:=Qc (And.intro ho hb);generalize vls (l.take k)=Lk at *;clear hx hy r2 ho hb
   go_upto_region 5 with (fail)
   obtain⟨w5,hw5⟩:=Ze (wr.alloc (.cells #[.int .u64 (x:Int),.string y] 38))
   try rw[hw5]
   have H5:Hid (Qk w5 w.heap.size u3 Lk∧Zb w w5):=by rw[<-hw5];exact⟨UW H0.out.1 _,bal H0.out.2 _⟩
   have k5:=((QkZ wr x y HV.out.2).at (j:=0) (by decide)).2
   rw[hw5] at k5;simp only[Nat.zero_mul,Nat.add_zero,Nat.zero_add] at k5;clear hw5 H0 c1 c2
   go_wp2_with (at_builtin;refine QS _ rfl _ _ rfl w.heap.size _ Lk rfl (UW H5.out.1 _) (some ⟨w5.heap.size,0,none⟩) w5.heap.size 0 1 [y] rfl (UN w5 y HV.out.2) (fun h=>by cases h) ?c1 ?c2 ?_)
   case c1=>have:=HLn.out;simp;omega
   case c2=>have:=H5.out.2.size;simp;omega
   intro v' w3 o3 hb3;have HO3:=Qc (And.intro o3 ((bal H5.out.2 (.cells #[.string y] 9)).trans hb3));clear o3 hb3;go_wp2
   go_roundg (cn - (k+1))
   case rel =>
    go_light;exact⟨k+1,by omega,rfl,by go_num,by rw[HV.out.1];exact HO3.out.1,HO3.out.2⟩
   case measure=>go_light;omega
  ·have hz : ¬(k:Int)<(cn:Int):=by omega
   obtain rfl:k=cn:=by omega
   have HO:=Qc (And.intro ho hb);clear ho hb;go_wp2
   go_ret
   refine⟨_,rfl,?_,HO.out.2⟩
   have:=HO.out.1;rw[Lx (by have:=HL.out.1;omega)] at this
   exact this
theorem Qhj(bs:BA) : ∀(n i:Nat) (r:List UInt8),bs.size - i=n->ByteArray.toList.loop bs i r=r.reverse++bs.data.toList.drop i:=by
 intro n
 induction n with
 | zero =>
  intro i r h;rw[ByteArray.toList.loop,if_neg (by omega)]
  rw[Nb (by simp;exact(by omega:bs.size<=i)),L6]
 | succ n ih =>
  intro i r h;have hi:i<bs.size:=by omega
  rw[ByteArray.toList.loop,if_pos hi,ih (i+1) _ (by omega)]
  have hl:i<bs.data.toList.length:=by simp;exact hi
  rw[LC hl,List.reverse_cons,Lt];have:bs.get! i=bs.data.toList[i]:=by
   show bs.data[i]! = _
   have hi2:i<bs.data.size:=hi;rw[getElem!_pos bs.data i hi2];simp
  rw[this];rfl
theorem Qdt(bs:BA):bs.toList=bs.data.toList:=by
 rw[ByteArray.toList,Qhj bs bs.size 0 [] rfl];rfl
theorem Yo{x y:BA}(h:x≠y):(x.toList == y.toList)=false:=by
 rw[Qdt,Qdt];simp only[beq_eq_false_iff_ne,ne_eq];intro e;exact h (Io (NV.1 e))
theorem YG{x y:BA}(h:x≠y) : ¬x.toList=y.toList:=fun e=>by
 have:=Yo h;rw[e] at this;simp at this
theorem Qae{n o:Nat}{d c:BA}(h : ¬(n=o∧d=c)) : ¬n=o∨(n=o∧d≠c):=by
 by_cases h1:n=o
 ·exact .inr ⟨h1,fun h2=>h ⟨h1,h2⟩⟩
 ·exact .inl h1
section
open Cv (RdC zl cU tno)
open Pl (pw)
abbrev noR:Value := .agg #[.int .u64 0,.string ⟨#[]⟩]
theorem QfH{w W0:World}{kd k:Int}{old size:Nat}{vs vd:Value}(h:(w.alloc (.cells #[.int .i64 kd,.int .i64 k,.int .u64 (old:Int),.int .u64 (size:Int),vs,vd] 55)).alloc (.cells #[.int .u64 0,.string ⟨#[]⟩] 30)=W0) :
  Zb w W0∧Six W0 w.heap.size (.int .i64 kd) (.int .i64 k) (.int .u64 (old:Int)) (.int .u64 (size:Int)) vs vd∧Rt W0 (w.heap.size+1) 0 ⟨#[]⟩∧W0.heap.size=w.heap.size+2:=by
 subst h;refine⟨bal (bal (Below.refl _ _) _) _,?_,?_,by simp⟩
 ·exact(QV w _ _ _ _ _ _).next (bal (Below.refl _ _) _)
 ·have:=QfM (w.alloc (.cells #[.int .i64 kd,.int .i64 k,.int .u64 (old:Int),.int .u64 (size:Int),vs,vd] 55)) 0 ⟨#[]⟩ 30;rw[Lp] at this;exact this
theorem QmR{w:World}{g n:Nat}{d:BA}(h:Rt w g n d)(a:Int)(b:BA) :
  ((w.setCell ⟨g,0,none⟩ (.int .u64 a)).setCell ⟨g,1,none⟩ (.string b)).cell? ⟨g,0,none⟩=some (.int .u64 a)∧((w.setCell ⟨g,0,none⟩ (.int .u64 a)).setCell ⟨g,1,none⟩ (.string b)).cell? ⟨g,1,none⟩=some (.string b)∧ChT (fun x=>x=g) w ((w.setCell ⟨g,0,none⟩ (.int .u64 a)).setCell ⟨g,1,none⟩ (.string b)):=by
 refine⟨?_,?_,((ChT.refl (fun x=>x=g) w).set g 0 _ rfl).set g 1 _ rfl⟩
 ·exact(Lj _ _ _ _ (by simp)).trans (LT _ _ _ h.c0)
 ·exact LT _ _ _ ((Lj _ _ _ _ (by simp)).trans h.c1)
def okB(kd k:Int)(old size:Nat)(S:List Nat)(D:LB):Prop:=(kd=2∧(1<=k∧k<=32)∧old=0)∧(Cv.Yh size S=0∧fil k (Cv.rstS size S).length D)
instance (kd k:Int) (old size:Nat) (S:List Nat) (D:LB):Decidable (okB kd k old size S D):=by unfold okB;infer_instance
theorem Ja{w:World}{B T s n:Nat}{y:Value}{cs:List Value}(h:w.ownsRow B T s y n cs){g:Nat}(hg:y.ownBlock=some g):B<=g ∧ ∃cur,w.heap[g]? = some (.cells cur T (0,0)):=by
 obtain⟨_,h2⟩:=h
 rcases h2 with ⟨rfl,_⟩|⟨g',cap,cur,rfl,hb,hh,_⟩
 ·cases hg
 ·cases hg;exact⟨hb,cur,hh⟩
theorem QfE{w:World}{ao:OA}{b off len cap:Nat}{l:LB}(h:RdS w ao b off len l)(hn:ao=none->cap=0):RdC w (.slice ao len cap) len (l.map Value.string):=by
 refine⟨ao,cap,rfl,fun e=>⟨?_,hn e⟩,fun ad ha j c hj => ?_⟩
 ·rcases Nat.eq_zero_or_pos len with h0|h0
  ·exact h0
  ·have:=h.ptr h0;rw[e] at this;cases this
 ·have hj':j<len:=by have:=(Lw.1 hj).1;rw[Ln,h.hl] at this;exact this
  have:=h.ptr (by omega)
  rw[ha] at this
  cases this;rw[Addr.add_mid];exact h.rng j c hj
theorem Qs(w:World){ops:Array Oper}{rest:List Oper}{o:Oper}{a:Act}{Q:Exit->Act->World->Prop}
  (hg:o.guard=none) (s x:Operand) (hop:o.op=Op.call { callee:=Callee.builtin Builtin.append,args:=#[s,x],argTypes:=#[22,22] })
  (B:Nat) (v:Value) (L:LB) (hs:a.eval s=v) (hown:Qk w B v L) (ao:OA) (b off len cap:Nat) (M:LB) (hx:a.eval x = .slice ao len cap) (hr:RdS w ao b off len M) (hn:ao=none->cap=0)
  (hlen:L.length+M.length<=1048576) (hB:B<=w.heap.size)
  (hK : ∀v' w',Qk w' B v' (L++M)->w.grownBy w' v.ownBlock->(v'.ownBlock=v.ownBlock ∨ ∀g,v'.ownBlock=some g->w.heap.size<=g)->wpList Tryz.prog ops Q rest (a.put o.dst v') w'):wpList Tryz.prog ops Q (o::rest) a w:=by
 obtain⟨i0,hi,hz0,hz1,hz2⟩:=info_parts Tryz.infoS;have hl:=hr.hl;refine Cv.QQ w hg s x _ hop B 9 i0 (.string ByteArray.empty) 1 16 Tryz.underlying22 hi hz0 hz1 hz2 rfl (by decide) v L.length (L.map Value.string) hs hown (.slice ao len cap) len (M.map Value.string) hx (QfE hr hn) (by rw[Ln,hl,NN]) (by intro u hu;obtain⟨y,_,rfl⟩:=LE.1 hu;rfl) (by unfold maxLen;omega) (by omega) hB ?_
 intro v' w' h;refine hK v' w' ?_ h.grown h.fresh
 rw[Qk,Ld,LK,hl];exact h.own
theorem Qjd{w:World}{B T s n q:Nat}{y:Value}{xs:List Value}{cs:Array Value}{T':Nat}{fr:Nat×Nat}(h:w.ownsRow B T s y n xs)(hq:w.heap[q]? = some (.cells cs T' fr))(hT:T≠T') : ∀g,y.ownBlock=some g->g≠q:=fun g hg e=>by
 subst e;obtain⟨_,cur,hc⟩:=Ja h hg;rw[hq] at hc;injection hc with hc
 injection hc with _ h2 _
 exact hT h2.symm
section
variable {w2 wr W:World} {p q:Nat} {K:Int} {vs:Value} {S:List Nat} {X D P:LB}
end
end
section
open Cv (RdC zl cU cov)
open Pl (pw)
def isK(kd k:Int)(old size ns:Nat):Prop:=(kd=3∧(1<=k∧k<=32))∧size<=2^40∧old<=size∧ns=0
instance (kd k:Int) (old size ns:Nat):Decidable (isK kd k old size ns):=by unfold isK;infer_instance
theorem QbN(w:World)(kd k:Int)(old size:Nat)(sa:OA)(ns sc:Nat)(da:OA)(n2 dc:Nat)(r:Bool)(hr:decide (isK kd k old size ns)=r) :
  Zr 77 #[vP kd k old size (.slice sa ns sc) (.slice da n2 dc)] w (.bool r):=by
 have hb:=bal (Below.refl w.heap.size w) (oP kd k old size (.slice sa ns sc) (.slice da n2 dc))
 by_cases h1:kd=3
 ·subst h1
  by_cases h2:1<=k∧k<=32
  ·have HC:Hid (∀W,Calls Tryz.prog 61 #[.int .i64 k] W fun e w'=>e = .returned (.int .i64 0)∧W=w'):=fun W=>by
    have:=(QW W k);rw[show chk k=0 by rw[chk,if_neg (by omega)]] at this
    exact this.mono fun _ _ h=>⟨h.1,h.2.symm⟩
   by_cases h3:size<=2^40
   ·have z3:(size:Int)<=1099511627776:=by omega
    by_cases h4:old<=size
    ·have z4:(old:Int)<=(size:Int):=by omega
     by_cases h5:ns=0
     ·subst h5;obtain rfl:true=r:=by rw[<-hr];exact(decide_eq_true ⟨⟨rfl,h2⟩,h3,h4,rfl⟩).symm
      clear hr h2 h3 h4;unfold vP;unfold oP at hb
      go_enter Tryz.func77,Tryz.ntmps77
      go_wp2_with (go_at_call 61;with_reducible refine(HC.out _).mono ?_;rintro e w1 ⟨rfl,rfl⟩)
      go_ret
      exact⟨rfl,hb⟩
     ·have hz:((ns:Int) == 0)=false:=beq_false_of_ne (by omega)
      obtain rfl:false=r:=by rw[<-hr];exact(decide_eq_false (by rintro⟨_,_,_,h⟩;exact h5 h)).symm
      clear hr h2 h3 h4 h5
      go_enter Tryz.func77,Tryz.ntmps77
      go_wp2_with (go_at_call 61;with_reducible refine(HC.out _).mono ?_;rintro e w1 ⟨rfl,rfl⟩)
      go_ret
      exact⟨rfl,hb⟩
    ·have z4 : ¬(old:Int)<=(size:Int):=by omega
     obtain rfl:false=r:=by rw[<-hr];exact(decide_eq_false (by rintro⟨_,_,h,_⟩;exact h4 h)).symm
     clear hr h2 h3 h4
     go_enter Tryz.func77,Tryz.ntmps77
     go_wp2_with (go_at_call 61;with_reducible refine(HC.out _).mono ?_;rintro e w1 ⟨rfl,rfl⟩)
     go_ret
     exact⟨rfl,hb⟩
   ·have z3 : ¬(size:Int)<=1099511627776:=by omega
    obtain rfl:false=r:=by rw[<-hr];exact(decide_eq_false (by rintro⟨_,h,_⟩;exact h3 h)).symm
    clear hr h2 h3
    go_enter Tryz.func77,Tryz.ntmps77
    go_wp2_with (go_at_call 61;with_reducible refine(HC.out _).mono ?_;rintro e w1 ⟨rfl,rfl⟩)
    go_ret
    exact⟨rfl,hb⟩
  ·have HC:Hid (∀W,Calls Tryz.prog 61 #[.int .i64 k] W fun e w'=>e = .returned (.int .i64 70)∧W=w'):=fun W=>by
    have:=(QW W k);rw[show chk k=70 by rw[chk,if_pos (by omega)]] at this
    exact this.mono fun _ _ h=>⟨h.1,h.2.symm⟩
   obtain rfl:false=r:=by rw[<-hr];exact(decide_eq_false (by rintro⟨⟨_,h⟩,_⟩;exact h2 h)).symm
   clear hr h2
   go_enter Tryz.func77,Tryz.ntmps77
   go_wp2_with (go_at_call 61;with_reducible refine(HC.out _).mono ?_;rintro e w1 ⟨rfl,rfl⟩)
   go_ret
   exact⟨rfl,hb⟩
 ·obtain rfl:false=r:=by rw[<-hr];exact(decide_eq_false (by rintro⟨⟨h,_⟩,_⟩;exact h1 h)).symm
  clear hr
  go_enter Tryz.func77,Tryz.ntmps77;go_wp2
  go_ret
  exact⟨rfl,hb⟩
theorem O0(w:World)(kd k:Int)(old size:Nat)(sa:OA)(ns sc:Nat)(da:OA)(db dO dc:Nat)(D:LB)(hr:RdS w da db dO D.length D)(hm:D.length<=8796093022208)(ao:OA)(m0 c0:Nat)(r:Bool)(hq:decide (fil k m0 D)=r) :
  Zr 79 #[.slice ao m0 c0,vP kd k old size (.slice sa ns sc) (.slice da D.length dc)] w (.bool r):=by
 obtain⟨o1,ho1⟩:=Ze (oP kd k old size (.slice sa ns sc) (.slice da D.length dc));have hb0:=bal (Below.refl w.heap.size w) o1;have h6:Six (w.alloc o1) w.heap.size (.int .i64 kd) (.int .i64 k) (.int .u64 (old:Int)) (.int .u64 (size:Int)) (.slice sa ns sc) (.slice da D.length dc):=by rw[<-ho1];exact QV w _ _ _ _ _ _
 have HB:=Qc hb0;obtain⟨z0,z1,z2,z3,z4,z5⟩:=h6.cells;have HR:Hid (∀W,Zb w W->RdS W da db dO D.length D):=fun W hb=>hr.next hb (Lb _)
 have hm1:(D.length:Int)<=8796093022208:=by omega
 by_cases hl:D.length=m0
 ·subst hl;have HQ:Hid (decide (∀d∈D,(d.size:Int)=k)=r):=by
   rw[<-hq]
   show decide _=decide _
   simp only[fil,true_and]
  clear hr hq hm hb0 h6;unfold vP
  go_enter Tryz.func79,Tryz.ntmps79
  go_upto_region 1 with (fail)
  clear ho1;go_wp2
  go_loopg [16] D.length (fun g i wr => ∃j:Nat,j<=D.length∧g=D.length - j∧i = .int .i64 (j:Int)∧(∀t,t<j->((D.getD t ByteArray.empty).size:Int)=k)∧w.alloc o1=wr)
  case atStart =>
   go_light;exact⟨0,Lf _,rfl,rfl,fun t ht=>absurd ht (NC _),rfl⟩
  case round =>
   obtain⟨j,hj,rfl,rfl,hal,rfl⟩:=hrel
   by_cases hlt:j<D.length
   ·have hz:(j:Int)<(D.length:Int):=by omega
    have hz0:(0:Int)<=(j:Int):=Le _;have hrd:=HR.out _ HB.out;obtain rfl:=hrd.ptr (by omega)
    have cj:=hrd.at hlt;obtain⟨d,hd⟩:=Ze (D.getD j ByteArray.empty);rw[hd] at cj
    by_cases hk:(d.size:Int)=k
    ·have HN:Hid (∀t,t<j+1->((D.getD t ByteArray.empty).size:Int)=k):=fun t ht=>by
      rcases Nu (NI ht) with hx|rfl
      ·exact hal t hx
      ·rw[hd];exact hk
     clear hd hal hrd;go_wp2
     go_roundg (D.length - (j+1))
     case rel =>
      go_light;exact⟨j+1,by omega,rfl,by go_num,HN.out,rfl⟩
     case measure=>go_light;omega
    ·obtain rfl:false=r:=by
      rw[<-HQ.out];refine(decide_eq_false fun h=>hk ?_).symm
      rw[<-hd];exact h _ (QI hlt)
     clear hd hal hrd;go_wp2
     go_ret
     exact⟨rfl,HB.out⟩
   ·obtain rfl:j=D.length:=by omega
    have hz : ¬((D.length:Int)<(D.length:Int)):=by omega
    obtain rfl:true=r:=by
     rw[<-HQ.out];refine(decide_eq_true fun d hd => ?_).symm
     obtain⟨t,ht,rfl⟩:=LZ hd;have:=hal t ht
     rwa [La,Lc ht] at this
    clear hal hlt;go_wp2
    go_ret
    exact⟨rfl,HB.out⟩
 ·have hz : ¬(D.length:Int)=(m0:Int):=by omega
  obtain rfl:false=r:=by rw[<-hq];exact(decide_eq_false (by rintro⟨h,_⟩;exact hl h)).symm
  rw[<-ho1] at z0 z1 z2 z3 z4 z5 HB;clear hr hq hm hb0 h6 ho1 hl HR
  go_enter Tryz.func79,Tryz.ntmps79;go_wp2
  go_ret
  exact⟨rfl,HB.out⟩
theorem Yf{w W:World}{B T s n:Nat}{v:Value}{xs:List Value}(h:w.ownsRow B T s v n xs)(hb:Zb w W):W.ownsRow B T s v n xs :=
 Qj h fun g hg _=>hb.block g (Lq h g hg).2
theorem Qh6{w:World}{g0:Nat}{u0 u1:Value}{L0 L1:List (Int×Nat)}(c0:w.cell? ⟨g0,0,none⟩=some u0)(c1:w.cell? ⟨g0,1,none⟩=some u1)(r0:RdC w u0 L0.length (Cv.cB L0))(r1:RdC w u1 L1.length (Cv.cB L1)):CatB w g0 [u0,u1] [L0,L1]:=by
 refine⟨rfl,fun j hj => ?_,fun j hj => ?_⟩
 ·match j with
  | 0=>exact c0
  | 1=>exact c1
  | n+2=>simp at hj;omega
 ·match j with
  | 0=>exact r0
  | 1=>exact r1
  | n+2=>simp at hj;omega
theorem Yt{m n:Nat}(hm:m<=n)(hn:n<=2^40):Cv.YK m n n=0∧Cv.JC m n n=cov m n:=by
 have:Cv.YK m n n=0:=by unfold Cv.YK;rw[if_neg (by omega),if_neg (by omega),if_neg (by omega)]
 exact⟨this,by rw[Cv.JC,if_pos this]⟩
theorem QlM(m n:Nat):zl (cov 0 m)++zl (cov m n)=zl (kb m n):=by rw[kb,Cv.YL]
theorem OO(w:World)(m n:Nat)(hm:m<=n)(hn:n<=2^40) :
  Calls Tryz.prog 78 #[.int .u64 (m:Int),.int .u64 (n:Int)] w fun e w' => ∃v,e = .returned v∧Cv.Qz w' w.heap.size v (zl (kb m n))∧Zb w w':=by
 have HM:Hid (∀W,Calls Tryz.prog 75 #[.int .u64 (m:Int)] W fun e w' => ∃ao n1 cap,e = .returned (.tuple #[.slice ao n1 cap,.int .i64 0])∧Cv.Qz w' W.heap.size (.slice ao n1 cap) (zl (cov 0 m))∧Zb W w'):=fun W=>by
  have h:=Cv.Yq m W;rw[(Yt (Lf _) (by omega)).1,(Yt (Lf _) (by omega)).2] at h
  refine h.mono fun e w' ⟨v,e1,e2,e3⟩ => ?_
  obtain⟨ao,n1,cap,rfl⟩:=Cv.Qh e2;exact⟨ao,n1,cap,e1,e2,e3⟩
 have HR:Hid (∀W,Calls Tryz.prog 110 #[.int .u64 (m:Int),.int .u64 (n:Int),.int .u64 (n:Int)] W fun e w' => ∃ao n1 cap,e = .returned (.tuple #[.slice ao n1 cap,.int .i64 0])∧Cv.Qz w' W.heap.size (.slice ao n1 cap) (zl (cov m n))∧Zb W w'):=fun W=>by
  have h:=Cv.Oh m n n W;rw[(Yt hm hn).1,(Yt hm hn).2] at h;refine h.mono fun e w' ⟨v,e1,e2,e3⟩ => ?_
  obtain⟨ao,n1,cap,rfl⟩:=Cv.Qh e2;exact⟨ao,n1,cap,e1,e2,e3⟩
 have hl:=OB hm hn;have HCat:Hid (∀W v0 v1,Cv.Qz W w.heap.size v0 (zl (cov 0 m))->Cv.Qz W w.heap.size v1 (zl (cov m n)) -> ∀t,Calls Tryz.prog 111 #[.slice (some ⟨W.heap.size,0,none⟩) 2 2] (W.alloc (.cells #[v0,v1] t)) fun e w' => ∃v,e = .returned v∧Cv.Qz w' W.heap.size v (zl (kb m n))∧Zb W w'):=fun W v0 v1 o0 o1 t=>by
  have hb:=bal (Below.refl W.heap.size W) (.cells #[v0,v1] t);have hx:=heap_alloc_new W (.cells #[v0,v1] t);have hc:CatB (W.alloc (.cells #[v0,v1] t)) W.heap.size [v0,v1] [zl (cov 0 m),zl (cov m n)]:=by
   refine Qh6 ?_ ?_ (Cv.Je (Cv.Uo o0) hb) (Cv.Je (Cv.Uo o1) hb)
   ·rw[cell_of_row _ _ 0 _ _ (0,0) hx];rfl
   ·rw[cell_of_row _ _ 1 _ _ (0,0) hx];rfl
  have hf:[zl (cov 0 m),zl (cov m n)].flatten=zl (kb m n):=by
   simp only[List.flatten_cons,List.flatten_nil,List.append_nil];exact QlM m n
  refine(Qd9 _ _ 2 _ _ hc (by simp) (by rw[hf,Cv.Qq];omega) _ hf).mono fun e w' ⟨v,e1,e2,e3⟩=>⟨v,e1,?_,Qa hb e3⟩
  exact World.ownsRow.mono e2 (by simp)
 clear hm hn hl
 go_enter Tryz.func78,Tryz.ntmps78
 go_wp2_with (first
  | (go_at_call 75;with_reducible refine(HM.out _).mono ?_;rintro e w1 ⟨a1,n1,c1,rfl,h1,hb1⟩)
  | (go_at_call 110;with_reducible refine(HR.out _).mono ?_;rintro e w2 ⟨a2,n2,c2,rfl,h2,hb2⟩)
  | (go_at_call 111;with_reducible refine(HCat.out w2 _ _ (World.ownsRow.mono (Yf h1 hb2) (Lb _)) (World.ownsRow.mono h2 hb1.size) _).mono ?_;rintro e w3 ⟨v,rfl,h3,hb3⟩))
 obtain⟨a3,n3,c3,rfl⟩:=Cv.Qh h3
 go_ret
 exact⟨_,rfl,World.ownsRow.mono h3 (Lm hb1.size hb2.size),Qa (Qa hb1 hb2) hb3⟩
theorem QlL{m n:Nat}(hm:m<=n)(hn:n<=2^40) : ∀b∈kb m n,(b.2+1)*2^b.1<=n:=fun b hb=>(Uy (JO hm hn) b hb).2
def Rh(w:World)(g n:Nat)(d:BA):Prop:=w.heap[g]? = some (.cells #[.int .u64 (n:Int),.string d] 30 (0,0))
section
variable {w W:World} {g n:Nat} {d:BA}
theorem Rh.cells(t:Rh w g n d):w.cell? ⟨g,0,none⟩=some (.int .u64 (n:Int))∧w.cell? ⟨g,1,none⟩=some (.string d) :=
 ⟨by rw[cell_of_row w g 0 _ _ (0,0) t];rfl,by rw[cell_of_row w g 1 _ _ (0,0) t];rfl⟩
theorem Rh.fz(t:Rh w g n d)(j:Nat):w.frozen? ⟨g,j,none⟩=false:=frozen_of_row w g j _ _ t
theorem Rh.lt(t:Rh w g n d):g<w.heap.size:=(Lg.1 t).1
theorem Rh.same(t:Rh w g n d)(hb:W.heap[g]? = w.heap[g]?):Rh W g n d:=hb.trans t
theorem Rh.next(t:Rh w g n d)(hb:Zb w W):Rh W g n d:=t.same (hb.block g t.lt)
theorem YC(w:World)(n:Nat)(d:BA):Rh (w.alloc (.cells #[.int .u64 (n:Int),.string d] 30)) w.heap.size n d:=heap_alloc_new w _
def UH(w:World)(g n:Nat)(d:BA):World:=(w.setCell ⟨g,0,none⟩ (.int .u64 (n:Int))).setCell ⟨g,1,none⟩ (.string d)
theorem Rh.put(t:Rh w g n d)(n':Nat)(d':BA):Rh (UH w g n' d') g n' d':=by
 have h0:=heap_setCell_same w g 0 _ _ (.int .u64 (n':Int)) t;exact heap_setCell_same _ g 1 _ _ (.string d') h0
theorem QU(w:World)(g n:Nat)(d:BA):ChT (fun x=>x=g) w (UH w g n d):=((ChT.refl (fun x=>x=g) w).set g 0 _ rfl).set g 1 _ rfl
end
structure K3(w:World)(s0:Nat)(kd k:Int)(old size:Nat)(vs vd:Value)(n1:Nat)(d1:BA)(n2:Nat)(d2:BA):Prop where
 six:Six w s0 (.int .i64 kd) (.int .i64 k) (.int .u64 (old:Int)) (.int .u64 (size:Int)) vs vd
 r1:Rh w (s0+1) n1 d1
 r2:Rh w (s0+2) n2 d2
section
variable {w W:World} {s0:Nat} {kd k:Int} {old size:Nat} {vs vd:Value} {n1 n2:Nat} {d1 d2:BA}
theorem K3.next(h:K3 w s0 kd k old size vs vd n1 d1 n2 d2)(hb:Zb w W):K3 W s0 kd k old size vs vd n1 d1 n2 d2:=⟨h.six.next hb,h.r1.next hb,h.r2.next hb⟩
theorem K3.put1(h:K3 w s0 kd k old size vs vd n1 d1 n2 d2)(n:Nat)(d:BA):K3 (UH w (s0+1) n d) s0 kd k old size vs vd n d n2 d2:=by
 have hc:=QU w (s0+1) n d;exact⟨h.six.same (hc.block s0 (by omega)),h.r1.put n d,h.r2.same (hc.block (s0+2) (by omega))⟩
theorem K3.put2(h:K3 w s0 kd k old size vs vd n1 d1 n2 d2)(n:Nat)(d:BA):K3 (UH w (s0+2) n d) s0 kd k old size vs vd n1 d1 n d:=by
 have hc:=QU w (s0+2) n d;exact⟨h.six.same (hc.block s0 (by omega)),h.r1.same (hc.block (s0+1) (by omega)),h.r2.put n d⟩
theorem OZ(w:World)(kd k:Int)(old size:Nat)(vs vd:Value){W0:World}(h:((w.alloc (.cells #[.int .i64 kd,.int .i64 k,.int .u64 (old:Int),.int .u64 (size:Int),vs,vd] 55)).alloc (.cells #[.int .u64 0,.string ⟨#[]⟩] 30)).alloc (.cells #[.int .u64 0,.string ⟨#[]⟩] 30)=W0) :
  K3 W0 w.heap.size kd k old size vs vd 0 ⟨#[]⟩ 0 ⟨#[]⟩∧Zb w W0:=by
 subst h;refine⟨⟨?_,?_,?_⟩,bal (bal (bal (Below.refl _ _) _) _) _⟩
 ·exact(QV w _ _ _ _ _ _).next (bal (bal (Below.refl _ _) _) _)
 ·have:=YC (w.alloc (.cells #[.int .i64 kd,.int .i64 k,.int .u64 (old:Int),.int .u64 (size:Int),vs,vd] 55)) 0 ⟨#[]⟩;rw[Lp] at this;exact this.next (bal (Below.refl _ _) _)
 ·have:=YC ((w.alloc (.cells #[.int .i64 kd,.int .i64 k,.int .u64 (old:Int),.int .u64 (size:Int),vs,vd] 55)).alloc (.cells #[.int .u64 0,.string ⟨#[]⟩] 30)) 0 ⟨#[]⟩;rw[Lp,Lp] at this;exact this
end
def okK(kd k:Int)(old size ns:Nat)(D:LB):Prop:=isK kd k old size ns∧fil k (kb old size).length D
instance (kd k:Int) (old size ns:Nat) (D:LB):Decidable (okK kd k old size ns D):=by unfold okK;infer_instance
theorem Qas(w:World)(kd k:Int)(old size:Nat)(sa:OA)(ns sc:Nat)(da:OA)(db dO dc:Nat)(D:LB)(hr:RdS w da db dO D.length D)(hm:D.length<=8796093022208)(hno : ¬okK kd k old size ns D) :
  Zr 36 #[vP kd k old size (.slice sa ns sc) (.slice da D.length dc)] w (.tuple #[noR,noR,.int .i64 150]):=by
 obtain⟨W0,hW0⟩:=Ze (((w.alloc (.cells #[.int .i64 kd,.int .i64 k,.int .u64 (old:Int),.int .u64 (size:Int),.slice sa ns sc,.slice da D.length dc] 55)).alloc (.cells #[.int .u64 0,.string ⟨#[]⟩] 30)).alloc (.cells #[.int .u64 0,.string ⟨#[]⟩] 30));obtain⟨h3,hb⟩:=OZ w kd k old size (.slice sa ns sc) (.slice da D.length dc) hW0;obtain⟨c0,c1,c2,c3,c4,c5⟩:=h3.six.cells;have H3:=Qc h3
 by_cases h1:isK kd k old size ns
 ·have h2 : ¬fil k (kb old size).length D:=fun h=>hno ⟨h1,h⟩
  have HI:Hid (∀W,Zr 77 #[vP kd k old size (.slice sa ns sc) (.slice da D.length dc)] W (.bool true)):=fun W=>QbN W kd k old size sa ns sc da D.length dc true (decide_eq_true h1)
  have HBk:Hid (∀W,Calls Tryz.prog 78 #[.int .u64 (old:Int),.int .u64 (size:Int)] W fun e w' => ∃ao cap,e = .returned (.slice ao (kb old size).length cap)∧Zb W w'):=fun W=>(OO W old size h1.2.2.1 h1.2.1).mono fun e w' ⟨v,e1,e2,e3⟩=>by
   obtain⟨ao,n',cap,rfl⟩:=Cv.Qh e2
   rcases e2.2 with ⟨q1,q2⟩|⟨_,_,_,q1,_⟩
   ·obtain⟨rfl,rfl,rfl⟩:=NJ q1;rw[Cv.Qq] at q2;rw[q2];exact⟨_,_,e1,e3⟩
   ·obtain⟨rfl,rfl,rfl⟩:=NJ q1;rw[Cv.Qq] at e1;exact⟨_,_,e1,e3⟩
  have HF:Hid (∀W ao c,Zb w W->Zr 79 #[.slice ao (kb old size).length c,vP kd k old size (.slice sa ns sc) (.slice da D.length dc)] W (.bool false)):=fun W ao c hb=>O0 W kd k old size sa ns sc da db dO dc D (hr.next hb (Lb _)) hm ao (kb old size).length c false (decide_eq_false h2)
  clear hr hm hno h1 h2 h3;unfold vP at HI HF;unfold vP
  go_enter Tryz.func36,Tryz.ntmps36
  go_wp2_with (first
   | (go_at_call 77;with_reducible refine(HI.out _).mono ?_;rintro e w1 ⟨rfl,hb1⟩;obtain⟨d0,d1,d2,d3,d4,d5⟩:=(H3.out.next hb1).six.cells)
   | (go_at_call 78;with_reducible refine(HBk.out _).mono ?_;rintro e w2 ⟨ao,cap,rfl,hb2⟩;obtain⟨g0,g1,g2,g3,g4,g5⟩:=(H3.out.next (Qa hb1 hb2)).six.cells)
   | (go_at_call 79;with_reducible refine(HF.out _ _ _ (Qa (Qa hb hb1) hb2)).mono ?_;rintro e w3 ⟨rfl,hb3⟩;have hK:=H3.out.next (Qa (Qa hb1 hb2) hb3);obtain⟨k0,k1⟩:=hK.r1.cells;obtain⟨k2,k3⟩:=hK.r2.cells;have f0:=hK.r1.fz;have f1:=hK.r2.fz))
  have hK1:=(hK.put1 0 ⟨#[]⟩).put2 0 ⟨#[]⟩;have hc1:=QU w3 (w.heap.size+1) 0 ⟨#[]⟩;have hc2:=QU (UH w3 (w.heap.size+1) 0 ⟨#[]⟩) (w.heap.size+2) 0 ⟨#[]⟩;unfold UH at hK1 hc1 hc2;rw[show((0:Nat):Int)=0 from rfl] at hK1 hc1 hc2
  obtain⟨s0,s1⟩:=hK1.r1.cells;obtain⟨s2,s3⟩:=hK1.r2.cells;refine bodyPost_ret (v := .tuple #[noR,noR,.int .i64 150]) (by simp[results,Tryz.results36,go_sem,s0,s1,s2,s3]) rfl ⟨rfl,?_⟩
  exact((Qa (Qa (Qa hb hb1) hb2) hb3).trans (hc1.below (by rintro b rfl;omega))).trans (hc2.below (by rintro b rfl;omega))
 ·have HI:Hid (∀W,Zr 77 #[vP kd k old size (.slice sa ns sc) (.slice da D.length dc)] W (.bool false)):=fun W=>QbN W kd k old size sa ns sc da D.length dc false (decide_eq_false h1)
  clear hr hm hno h1 h3;unfold vP at HI;unfold vP
  go_enter Tryz.func36,Tryz.ntmps36
  go_wp2_with (go_at_call 77;with_reducible refine(HI.out _).mono ?_;rintro e w3 ⟨rfl,hb3⟩;have hK:=H3.out.next hb3;obtain⟨k0,k1⟩:=hK.r1.cells;obtain⟨k2,k3⟩:=hK.r2.cells;have f0:=hK.r1.fz;have f1:=hK.r2.fz)
  have hK1:=(hK.put1 0 ⟨#[]⟩).put2 0 ⟨#[]⟩;have hc1:=QU w3 (w.heap.size+1) 0 ⟨#[]⟩;have hc2:=QU (UH w3 (w.heap.size+1) 0 ⟨#[]⟩) (w.heap.size+2) 0 ⟨#[]⟩;unfold UH at hK1 hc1 hc2;rw[show((0:Nat):Int)=0 from rfl] at hK1 hc1 hc2
  obtain⟨s0,s1⟩:=hK1.r1.cells;obtain⟨s2,s3⟩:=hK1.r2.cells;refine bodyPost_ret (v := .tuple #[noR,noR,.int .i64 150]) (by simp[results,Tryz.results36,go_sem,s0,s1,s2,s3]) rfl ⟨rfl,?_⟩
  exact((Qa hb hb3).trans (hc1.below (by rintro b rfl;omega))).trans (hc2.below (by rintro b rfl;omega))
end
end Go.Proofs.YtdocjikpcbmcgaaGreatDoor
