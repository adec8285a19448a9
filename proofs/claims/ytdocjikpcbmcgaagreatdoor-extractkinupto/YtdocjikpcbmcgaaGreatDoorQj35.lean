/- Own work. -/
import Derived.Test.YtdocjikpcbmcgaaGreatDoorQj34
set_option maxRecDepth 100000
set_option maxHeartbeats 4000000
namespace Go.Proofs.YtdocjikpcbmcgaaGreatDoor
open Go.RowKit
attribute [local go_sem ↓] Go.wp_at_zero Go.wp_at_succ
theorem QkK(w:World)(a:Nat):Calls Tryz.prog 220 #[.int .u64 (a:Int)] w fun e w'=>e = .returned (.bool false)∧w=w':=by
 go_enter Tryz.func220,Tryz.ntmps220;go_wp2
 go_ret
 exact⟨rfl,rfl⟩
def cmpE(a b:Nat):Int:=if a<b then -1 else if b<a then 1 else 0
theorem Qd8(w:World)(a b:Nat):Calls Tryz.prog 219 #[.int .u64 (a:Int),.int .u64 (b:Int)] w fun e w'=>e = .returned (.int .i64 (cmpE a b))∧w=w':=by
 have HA:Hid (∀W x,Calls Tryz.prog 220 #[.int .u64 ((x:Nat):Int)] W fun e w'=>e = .returned (.bool false)∧W=w'):=fun W x=>QkK W x
 unfold cmpE
 by_cases h1:a<b
 ·rw[if_pos h1];have z:(a:Int)<(b:Int):=by omega
  clear h1
  go_enter Tryz.func219,Tryz.ntmps219
  go_wp2_with (go_at_call 220;with_reducible refine(HA.out _ _).mono ?_;rintro e w1 ⟨rfl,rfl⟩)
  go_ret
  exact⟨rfl,rfl⟩
 ·rw[if_neg h1];have z : ¬(a:Int)<(b:Int):=by omega
  by_cases h2:b<a
  ·rw[if_pos h2];have z2:(b:Int)<(a:Int):=by omega
   clear h1 h2
   go_enter Tryz.func219,Tryz.ntmps219
   go_wp2_with (go_at_call 220;with_reducible refine(HA.out _ _).mono ?_;rintro e w1 ⟨rfl,rfl⟩)
   go_ret
   exact⟨rfl,rfl⟩
  ·rw[if_neg h2];have z2 : ¬(b:Int)<(a:Int):=by omega
   clear h1 h2
   go_enter Tryz.func219,Tryz.ntmps219
   go_wp2_with (go_at_call 220;with_reducible refine(HA.out _ _).mono ?_;rintro e w1 ⟨rfl,rfl⟩)
   go_ret
   exact⟨rfl,rfl⟩
theorem Qd4(w:World)(a b:Nat)(x:BA)(r:Int)(hr:cmpE a b=r):Zr 218 #[.agg #[.int .u64 (a:Int),.string x],.int .u64 (b:Int)] w (.int .i64 r):=by
 have HC:Hid (∀W,Calls Tryz.prog 219 #[.int .u64 (a:Int),.int .u64 (b:Int)] W fun e w'=>e = .returned (.int .i64 r)∧W=w'):=fun W=>by subst hr;exact Qd8 W a b
 have hb0:=bal (Below.refl w.heap.size w) (.cells #[.int .u64 (a:Int),.string x] 38);clear hr
 go_enter Tryz.func218,Tryz.ntmps218
 go_wp2_with (go_at_call 219;with_reducible refine(HC.out _).mono ?_;rintro e w1 ⟨rfl,rfl⟩)
 go_ret
 exact⟨rfl,hb0⟩
abbrev byV:Value := .func (.func 218) #[] #[]
theorem QfO(w:World)(ca:OA)(cb co cc:Nat)(l:List (Nat×BA))(hc:RdK w ca cb co l.length l)(hm:l.length<=8796093022208)(hp:Asc (ixs l))(i p:Nat)(hpl:p<l.length)(hi:(l.getD p noC).1=i) :
  Zr 217 #[.slice ca l.length cc,.int .u64 (i:Int),byV] w (.tuple #[.int .i64 (p:Int),.bool true]):=by
 obtain rfl:=hc.ptr (by omega)
 have hcmp : ∀j,j<l.length->(j<p->cmpE (l.getD j noC).1 i = -1)∧(p<j->cmpE (l.getD j noC).1 i=1)∧(j=p->cmpE (l.getD j noC).1 i=0):=fun j hj=>by
  have hw:=Np.1 hp;have hat : ∀t (ht:t<l.length),(ixs l)[t]'(by rw[Ln];exact ht)=(l.getD t noC).1:=fun t ht=>by
   rw[IJ,La,Lc ht];rfl
  refine⟨fun h => ?_,fun h => ?_,fun h => ?_⟩
  ·have:=hw j p (by rw[Ln];exact hj) (by rw[Ln];exact hpl) h
   rw[hat j hj,hat p hpl,hi] at this;rw[cmpE,if_pos this]
  ·have:=hw p j (by rw[Ln];exact hpl) (by rw[Ln];exact hj) h
   rw[hat j hj,hat p hpl,hi] at this;rw[cmpE,if_neg (by omega),if_pos this]
  ·subst h;rw[hi,cmpE,if_neg (NB _),if_neg (NB _)]
 have HC:Hid (∀W j,Zb w W->j<l.length -> ∃(a:Nat) (x:BA) (r:Int),(j<p->r = -1)∧(p<j->r=1)∧(j=p->r=0)∧W.cell? ⟨cb,co+j*2,none⟩=some (.int .u64 (a:Int))∧W.cell? ⟨cb,co+j*2+1,none⟩=some (.string x) ∧ ∀V,Zr 218 #[.agg #[.int .u64 (a:Int),.string x],.int .u64 (i:Int)] V (.int .i64 r)):=fun W j hb hj=>by
  obtain⟨h1,h2⟩:=(hc.next hb).at hj;obtain⟨h3,h4,h5⟩:=hcmp j hj;exact⟨_,_,_,h3,h4,h5,h1,h2,fun V=>Qd4 V _ i _ _ rfl⟩
 have z5:(l.length:Int)<=8796093022208:=by omega
 clear hc hp hi hcmp
 go_enter Tryz.func217,Tryz.ntmps217;go_wp2
 go_loopg [9,10] l.length (fun g x y wr => ∃a b:Nat,g=b - a∧a<=p∧p<=b∧b<=l.length∧x = .int .i64 (a:Int)∧y = .int .i64 (b:Int)∧Zb w wr)
 case atStart =>
  go_light;exact⟨0,l.length,by omega,Lf _,by omega,Lb _,rfl,rfl,Below.refl _ _⟩
 case round =>
  obtain⟨a,b,rfl,ha,hb,hbl,rfl,rfl,hbw⟩:=hrel
  by_cases hlt:a<b
  ·obtain⟨m,hmm⟩:=Ze ((a+b) / 2);have z1:(a:Int)<(b:Int):=by omega
   obtain⟨s,hs⟩:=Ze (a+b);have e1:(a:Int)+(b:Int)=(s:Int):=by omega
   have e2:(s:Int) / 2=(m:Int):=by omega
   obtain⟨q,x,r,r1,r2,r3,c0,c1,HV⟩:=HC.out wr m hbw (by omega)
   have HV:=Qc HV;have m0:(0:Int)<=(m:Int):=Le _;have m1:(m:Int)<(l.length:Int):=by omega
   have hmn:m*2=m+m:=by omega
   clear hmn
   by_cases hmp:m<p
   ·obtain rfl:=r1 hmp;have m2:m+1<=p:=hmp;have m3:b - (m+1)<b - a:=by omega
    clear r1 r2 r3 hmm hs hmp
    go_wp2_with (go_at_call 218;with_reducible refine(HV.out _).mono ?_;rintro e w1 ⟨rfl,hb1⟩)
    go_roundg (b - (m+1))
    case rel =>
     go_light;exact⟨m+1,b,rfl,m2,hb,hbl,by go_num,rfl,Qa hbw hb1⟩
    case measure=>go_light;omega
   ·have hr0 : ¬r<0:=by
     rcases Nu (I7 hmp) with h|h
     ·rw[r2 h];decide
     ·rw[r3 h.symm];decide
    have m2:p<=m:=I7 hmp;have m3:m - a<b - a:=by omega
    have m4:m<=l.length:=by omega
    clear r1 r2 r3 hmm hs hmp
    go_wp2_with (go_at_call 218;with_reducible refine(HV.out _).mono ?_;rintro e w1 ⟨rfl,hb1⟩)
    go_roundg (m - a)
    case rel =>
     go_light;exact⟨a,m,rfl,ha,m2,m4,rfl,rfl,Qa hbw hb1⟩
    case measure=>go_light;omega
  ·obtain rfl:a=p:=by omega
   obtain rfl:b=a:=by omega
   obtain⟨q,x,r,_,_,r3,c0,c1,HV⟩:=HC.out wr b hbw hpl;have HV:=Qc HV;obtain rfl:=r3 rfl;have z1 : ¬(b:Int)<(b:Int):=by omega
   have m0:(0:Int)<=(b:Int):=Le _;have m1:(b:Int)<(l.length:Int):=by omega
   clear r3 hlt ha hb hbl
   go_wp2_with (go_at_call 218;with_reducible refine(HV.out _).mono ?_;rintro e w1 ⟨rfl,hb1⟩)
   exact bodyPost_ret (v := .tuple #[.int .i64 (b:Int),.bool true]) (by simp[results,Tryz.results217,go_sem]) rfl ⟨rfl,Qa hbw hb1⟩
abbrev prV'(da:OA)(dn dc:Nat)(ca:OA)(cn cc:Nat)(mo:Option Nat):Value := .agg #[.slice da dn dc,.slice ca cn cc,.map mo]
def prE(D:LB)(V:Nat->BA)(M:Nat->Nat->Option Nat)(h i:Nat):Value:=if (M h i).isSome then ba (D.getD ((M h i).getD 0) ByteArray.empty) else if 0<h then .nilIface else wo (Qm (V i))
theorem Qjm(w:World)(da:OA)(db dO dc:Nat)(D:LB)(hr:RdS w da db dO D.length D)(hm:D.length<=8796093022208)(ca:OA)(cb co cc:Nat)(l:List (Nat×BA))(hc:RdK w ca cb co l.length l)(hcm:l.length<=8796093022208)(hp:Asc (ixs l))(hv : ∀x∈vls l,x.size<2305843009213693952)(V:Nat->BA)(mo:Option Nat)(M:Nat->Nat->Option Nat)(hM:Cm w mo M)(h i:Nat)(hh:h<=40)(hi:i<18446744073709551616)(hj : ∀j,M h i=some j->j<D.length)(hq:h=0->M h i=none -> ∃p,p<l.length∧l.getD p noC=(i,V i))(r:Value)(hr':prE D V M h i=r) :
  Calls Tryz.prog 216 #[prV' da D.length dc ca l.length cc mo,.agg #[.int .i64 (h:Int),.int .u64 (i:Int)]] w fun e w'=>e = .returned r∧Zb w w':=by
 obtain⟨W0,hW0,hb0,⟨c0,c1,c2⟩,⟨d0,d1⟩,hz⟩:=QdS w (.slice da D.length dc) (.slice ca l.length cc) (.map mo) 107 (h:Int) (i:Int);have hlk:=(hM.next hb0).look hh hi;have hr0:=hr.next hb0 (Lb _)
 cases e:M h i with
 | some j =>
  have hjl:=hj j e;obtain rfl:ba (D.getD j ByteArray.empty)=r:=by rw[<-hr',prE,e];rfl
  rw[e] at hlk;simp only[Option.getD_some,Option.isSome_some] at hlk;obtain rfl:=hr.ptr (by omega)
  have cj:=hr0.at hjl;generalize D.getD j ByteArray.empty=d at cj;have z0:(0:Int)<=(j:Int):=Le _;have z1:(j:Int)<(D.length:Int):=by omega
  have z2:(D.length:Int)<=8796093022208:=by omega
  clear hr hm hc hcm hp hv hM hh hi hj hq hr' e hr0 hjl
  go_enter Tryz.func216,Tryz.ntmps216
  go_upto_region 1 with (fail)
  try rw[hW0]
  clear hW0 hz;go_wp2
  go_ret
  exact⟨rfl,hb0⟩
 | none =>
  rw[e] at hlk;simp only[Option.getD_none,Option.isSome_none] at hlk
  by_cases h0:0<h
  ·obtain rfl:Value.nilIface=r:=by rw[<-hr',prE,e];simp[h0]
   have hz0:(0:Int)<(h:Int):=by omega
   clear hr hm hc hcm hp hv hM hh hi hj hq hr' e hr0 h0
   go_enter Tryz.func216,Tryz.ntmps216
   go_upto_region 1 with (fail)
   try rw[hW0]
   clear hW0 hz;go_wp2
   go_ret
   exact⟨rfl,hb0⟩
  ·obtain rfl:h=0:=by omega
   obtain rfl:wo (Qm (V i))=r:=by rw[<-hr',prE,e];simp
   obtain⟨p,hpl,hpe⟩:=hq rfl e;have hS:=QfO W0 ca cb co cc l (hc.next hb0) hcm hp i p hpl (by rw[hpe])
   obtain rfl:=hc.ptr (by omega)
   have HCp:Hid (∀W,Zb w W->W.cell? ⟨cb,co+p*2+1,none⟩=some (.string (V i))):=fun W hb=>by
    have:=((hc.next hb).at hpl).2;rw[hpe] at this;exact this
   have hxs:(V i).size<2305843009213693952:=by
    refine hv _ (LE.2 ⟨(i,V i),?_,rfl⟩)
    rw[<-hpe,La,Lc hpl];exact LO _
   generalize V i=x at *;have HLf:Hid (∀W,Zr 164 #[.string x] W (.string (Qm x))):=fun W=>Qau W x hxs
   have HB:Hid (∀W,Zb W0 W->W.cell? ⟨w.heap.size,1,none⟩=some (.slice (some ⟨cb,co,none⟩) l.length cc)):=fun W hb=>(Lr (hb.block w.heap.size (by omega))).trans c1
   have z0:(0:Int)<=(p:Int):=Le _;have z1:(p:Int)<(l.length:Int):=by omega
   have z2:(l.length:Int)<=8796093022208:=by omega
   rw[show((0:Nat):Int)=0 from rfl] at hW0 d0 hlk ⊢
   clear hr hm hc hcm hp hv hM hh hi hj hq hr' e hr0 h0 hpe hxs
   go_enter Tryz.func216,Tryz.ntmps216
   go_upto_region 1 with (fail)
   try rw[hW0]
   clear hW0 hz
   go_wp2_with (first
    | (go_at_call 217;with_reducible refine hS.mono ?_;rintro e w1 ⟨rfl,hb1⟩;have k1:=HB.out _ hb1;have k2:=HCp.out _ (Qa hb0 hb1))
    | (go_at_call 164;with_reducible refine(HLf.out _).mono ?_;rintro e w2 ⟨rfl,hb2⟩))
   go_ret
   exact⟨rfl,Qa (Qa hb0 hb1) hb2⟩
abbrev wkV(k:Int)(v1:Value)(T2:Nat)(v2:Value):Value := .agg #[.int .i64 k,.iface 69 v1,.iface T2 v2]
abbrev snV(x y:BA)(q:Pq):Value := .agg #[.string x,.string y,.string (pA q),.string (pB' q),.bool q.isSome]
abbrev bkV(h i:Nat):Value := .agg #[.int .i64 (h:Int),.int .u64 (i:Int)]
def S5(w:World)(g:Nat)(x y:BA)(q:Pq):Prop:=w.heap[g]? = some (.cells #[.string x,.string y,.string (pA q),.string (pB' q),.bool q.isSome] 120 (0,0))
section
variable {w W:World} {g:Nat} {x y:BA} {q:Pq}
theorem S5.cells(h:S5 w g x y q):w.cell? ⟨g,0,none⟩=some (.string x)∧w.cell? ⟨g,1,none⟩=some (.string y)∧w.cell? ⟨g,2,none⟩=some (.string (pA q))∧w.cell? ⟨g,3,none⟩=some (.string (pB' q))∧w.cell? ⟨g,4,none⟩=some (.bool q.isSome):=by
 refine⟨?_,?_,?_,?_,?_⟩
 ·rw[cell_of_row w g 0 _ _ (0,0) h];rfl
 ·rw[cell_of_row w g 1 _ _ (0,0) h];rfl
 ·rw[cell_of_row w g 2 _ _ (0,0) h];rfl
 ·rw[cell_of_row w g 3 _ _ (0,0) h];rfl
 ·rw[cell_of_row w g 4 _ _ (0,0) h];rfl
theorem S5.fz(h:S5 w g x y q) : ∀j,w.frozen? ⟨g,j,none⟩=false:=fun j=>frozen_of_row w g j _ _ h
theorem S5.lt(h:S5 w g x y q):g<w.heap.size:=(Lg.1 h).1
theorem S5.next(h:S5 w g x y q)(hb:Zb w W):S5 W g x y q:=(hb.block g h.lt).trans h
theorem Qb7(w:World)(x y:BA)(q:Pq) : ∃W,w.alloc (.cells #[.string x,.string y,.string (pA q),.string (pB' q),.bool q.isSome] 120)=W∧S5 W w.heap.size x y q∧Zb w W∧W.heap.size=w.heap.size+1 :=
 ⟨_,rfl,heap_alloc_new w _,bal (Below.refl _ _) _,Lp ..⟩
abbrev YY(w:World)(g:Nat)(x y:BA)(q:Pq):World:=((((w.setCell ⟨g,0,none⟩ (.string x)).setCell ⟨g,1,none⟩ (.string y)).setCell ⟨g,2,none⟩ (.string (pA q))).setCell ⟨g,3,none⟩ (.string (pB' q))).setCell ⟨g,4,none⟩ (.bool q.isSome)
theorem S5.put(h:S5 w g x y q)(x' y':BA)(q':Pq):S5 (YY w g x' y' q') g x' y' q':=heap_setCell_same _ g 4 _ _ _ (heap_setCell_same _ g 3 _ _ _ (heap_setCell_same _ g 2 _ _ _ (heap_setCell_same _ g 1 _ _ _ (heap_setCell_same w g 0 _ _ _ h))))
theorem Jq(w:World)(g:Nat)(x y:BA)(q:Pq):ChT (fun b=>b=g) w (YY w g x y q):=(((((ChT.refl (fun b=>b=g) w).set g 0 _ rfl).set g 1 _ rfl).set g 2 _ rfl).set g 3 _ rfl).set g 4 _ rfl
theorem Qu{V:World}{v:Value}{b j:Nat}(x' y':BA)(q':Pq)(h:V.cell? ⟨b,j,none⟩=some v)(hb:b≠g):(YY V g x' y' q').cell? ⟨b,j,none⟩=some v:=by
 have hc:=Jq V g x' y' q';generalize YY V g x' y' q'=Z at *;exact(Lr (hc.block b hb)).trans h
end
structure Bw(W:World)(s0:Nat)(k:Int)(v1:Value)(T2:Nat)(v2:Value)(h i:Int):Prop where
 c0:W.cell? ⟨s0,0,none⟩=some (.int .i64 k)
 c1:W.cell? ⟨s0,1,none⟩=some (.iface 69 v1)
 c2:W.cell? ⟨s0,2,none⟩=some (.iface T2 v2)
 d0:W.cell? ⟨s0+1,0,none⟩=some (.int .i64 h)
 d1:W.cell? ⟨s0+1,1,none⟩=some (.int .u64 i)
 s5:S5 W (s0+1+1) ⟨#[]⟩ ⟨#[]⟩ none
theorem Bw.next{W Z:World}{s0:Nat}{k:Int}{v1:Value}{T2:Nat}{v2:Value}{h i:Int}(b:Bw W s0 k v1 T2 v2 h i)(hb:Zb W Z):Bw Z s0 k v1 T2 v2 h i:=by
 have l0:s0<W.heap.size:=Lh W _ b.c0;have l1:s0+1<W.heap.size:=Lh W _ b.d0;exact⟨(Lr (hb.block s0 l0)).trans b.c0,(Lr (hb.block s0 l0)).trans b.c1,(Lr (hb.block s0 l0)).trans b.c2,(Lr (hb.block (s0+1) l1)).trans b.d0,(Lr (hb.block (s0+1) l1)).trans b.d1,b.s5.next hb⟩
theorem Bw.ch{W Z:World}{s0 g:Nat}{k:Int}{v1:Value}{T2:Nat}{v2:Value}{h i:Int}(b:Bw W s0 k v1 T2 v2 h i)(hc:ChT (fun b=>b=g) W Z)(hg:s0+1+1<g):Bw Z s0 k v1 T2 v2 h i:=by
 have n0:s0≠g:=by omega
 have n1:s0+1≠g:=by omega
 exact⟨(Lr (hc.block s0 n0)).trans b.c0,(Lr (hc.block s0 n0)).trans b.c1,(Lr (hc.block s0 n0)).trans b.c2,(Lr (hc.block (s0+1) n1)).trans b.d0,(Lr (hc.block (s0+1) n1)).trans b.d1,(hc.block (s0+1+1) (by omega)).trans b.s5⟩
theorem U1(w:World)(k:Int)(v1:Value)(T2:Nat)(v2:Value)(h i:Int) : ∃W,((w.alloc (.cells #[.int .i64 k,.iface 69 v1,.iface T2 v2] 73)).alloc (.cells #[.int .i64 h,.int .u64 i] 83)).alloc (.cells #[.string ⟨#[]⟩,.string ⟨#[]⟩,.string ⟨#[]⟩,.string ⟨#[]⟩,.bool false] 120)=W∧Zb w W∧Bw W w.heap.size k v1 T2 v2 h i:=by
 obtain⟨W0,hW0,hb0,⟨c0,c1,c2⟩,⟨d0,d1⟩,hz⟩:=QdS w (.int .i64 k) (.iface 69 v1) (.iface T2 v2) 73 h i;rw[hW0];have hb1:=bal (Below.refl W0.heap.size W0) (.cells #[.string ⟨#[]⟩,.string ⟨#[]⟩,.string ⟨#[]⟩,.string ⟨#[]⟩,.bool false] 120);have h5:=heap_alloc_new W0 (.cells #[.string ⟨#[]⟩,.string ⟨#[]⟩,.string ⟨#[]⟩,.string ⟨#[]⟩,.bool false] 120);rw[hz] at h5;exact⟨_,rfl,Qa hb0 hb1,(Lr (hb1.block w.heap.size (by omega))).trans c0,(Lr (hb1.block w.heap.size (by omega))).trans c1,(Lr (hb1.block w.heap.size (by omega))).trans c2,(Lr (hb1.block (w.heap.size+1) (by omega))).trans d0,(Lr (hb1.block (w.heap.size+1) (by omega))).trans d1,h5⟩
theorem Jp(w:World) : ∃W,w.alloc (.cells #[.string ⟨#[]⟩,.string ⟨#[]⟩,.bool false] 59)=W∧P3 W w.heap.size none∧Zb w W :=
 ⟨_,rfl,heap_alloc_new w _,bal (Below.refl _ _) _⟩
theorem block_cutP (w:World) (k:Int) (v1 v2:Value) (h i:Nat) (d1 d2:BA) (U:Pq) (hU:un ⟨#[]⟩ ⟨#[]⟩=U)
    (HE1:Hid (∀W,Zb w W->Zr 214 #[v1,bkV h i] W (ba d1)))
    (HE2:Hid (∀W,Zb w W->Zr 216 #[v2,bkV h i] W (ba d2))) :
    Zr 76 #[wkV k v1 107 v2,bkV h i] w (snV d1 d2 U):=by
  have HD1:Hid (∀W,Zb w W->Zr 223 #[.string d1,.int .i64 k] W (.string d1)):=fun W _=>J4 W k d1
  have HD2:Hid (∀W,Zb w W->Zr 223 #[.string d2,.int .i64 k] W (.string d2)):=fun W _=>J4 W k d2
  have HT1:Hid (∀W,Zr 129 #[ba d1] W (.string ⟨#[]⟩)):=fun W=>Qbh W d1
  have HT2:Hid (∀W,Zr 129 #[ba d2] W (.string ⟨#[]⟩)):=fun W=>Qbh W d2
  have HU:Hid (∀W,Zr 70 #[.string ⟨#[]⟩,.string ⟨#[]⟩] W (pv U)):=fun W=>Y8 W _ _ U hU
  have HO:Hid (∀W,Zr 73 #[pv U,.agg #[.string ⟨#[]⟩,.string ⟨#[]⟩,.bool false]] W (pv U)):=fun W=>JR W U none U (by cases U <;> rfl)
  obtain⟨W0,hW0,hb0,hB⟩:=U1 w k v1 107 v2 (h:Int) (i:Int);have HX:Hid (∀V,Zb W0 V->V.cell? ⟨w.heap.size,1,none⟩=some (.iface 69 v1)∧V.cell? ⟨w.heap.size,2,none⟩=some (.iface 107 v2)∧V.cell? ⟨w.heap.size+1,0,none⟩=some (.int .i64 (h:Int))∧V.cell? ⟨w.heap.size+1,1,none⟩=some (.int .u64 (i:Int))):=fun V hb=>⟨(hB.next hb).c1,(hB.next hb).c2,(hB.next hb).d0,(hB.next hb).d1⟩
  have HB:=Qc hB;have xc:=(Below.refl W0.heap.size W0).drew;obtain⟨k1,k2,k3,k4⟩:=HX.out W0 (Below.refl _ _);clear hB hU
  go_enter Tryz.func76,Tryz.ntmps76
  go_upto_region 1 with (fail)
  try rw[hW0]
  clear hW0
  go_region_held3 (fun V=>V.cell? ⟨w.heap.size,1,none⟩=some (.iface 69 v1)∧V.cell? ⟨w.heap.size,2,none⟩=some (.iface 107 v2)∧V.cell? ⟨w.heap.size+1,0,none⟩=some (.int .i64 (h:Int))∧V.cell? ⟨w.heap.size+1,1,none⟩=some (.int .u64 (i:Int)))
    (first|with_reducible exact HX.out _ xc|with_reducible exact HX.out _ (Below.refl _ _))
    (first
      | (go_at_call 214;with_reducible refine(HE1.out _ (Qa hb0 xc)).mono ?_;rintro e w1 ⟨rfl,hb1⟩;replace xc:=Qa xc hb1;clear hb1)
      | (go_at_call 216;with_reducible refine(HE2.out _ (Qa hb0 xc)).mono ?_;rintro e w1 ⟨rfl,hb1⟩;replace xc:=Qa xc hb1;clear hb1))
  have x5:=HB.out.next xc;have xb:=Qa hb0 xc;clear k1 k2 k3 k4 HX
  go_upto_region 3 with (fail)
  obtain⟨F,hFe,h3,hb3⟩:=Jp w1
  try rw[hFe]
  clear hFe;have x6:=x5.next hb3;have xbF:=Qa xb hb3;have hl9:w.heap.size+1+1<w1.heap.size:=x5.s5.lt;have HB9:Hid (∀V,Zb F V->Zb w V):=fun V hb=>Qa xbF hb
  have HK9:Hid (∀V,Zb F V->V.cell? ⟨w.heap.size,0,none⟩=some (.int .i64 k)∧V.cell? ⟨w1.heap.size,0,none⟩=some (.string (⟨#[]⟩))∧V.cell? ⟨w1.heap.size,1,none⟩=some (.string (⟨#[]⟩))∧V.cell? ⟨w1.heap.size,2,none⟩=some (.bool (false))):=fun V hb=>⟨(x6.next hb).c0,(h3.next hb).cells⟩
  have HQ:Hid (∀V x y q,Zb F V->(YY V (w.heap.size+1+1) x y q).cell? ⟨w.heap.size,0,none⟩=some (.int .i64 k)∧(YY V (w.heap.size+1+1) x y q).cell? ⟨w1.heap.size,0,none⟩=some (.string (⟨#[]⟩))∧(YY V (w.heap.size+1+1) x y q).cell? ⟨w1.heap.size,1,none⟩=some (.string (⟨#[]⟩))∧(YY V (w.heap.size+1+1) x y q).cell? ⟨w1.heap.size,2,none⟩=some (.bool (false))):=fun V x y q hb=>by
    obtain⟨q0,q1,q2,q3⟩:=HK9.out V hb;have n1:w.heap.size≠w.heap.size+1+1:=by omega
    have n2:w1.heap.size≠w.heap.size+1+1:=by omega
    exact⟨Qu x y q q0 n1,Qu x y q q1 n2,Qu x y q q2 n2,Qu x y q q3 n2⟩
  have HS9:Hid (∀V,Zb F V->S5 V (w.heap.size+1+1) ⟨#[]⟩ ⟨#[]⟩ none):=fun V hb=>(x6.next hb).s5
  obtain⟨e0,e1,e2,e3⟩:=HK9.out F (Below.refl _ _);have xc9:=(Below.refl F.heap.size F).drew;clear x5 x6 xb hb3 HE1 HE2 HB h3 xc hl9
  go_upto_region 9 with (fail)
  go_region_held3 (fun V=>V.cell? ⟨w.heap.size,0,none⟩=some (.int .i64 k)∧V.cell? ⟨w1.heap.size,0,none⟩=some (.string (⟨#[]⟩))∧V.cell? ⟨w1.heap.size,1,none⟩=some (.string (⟨#[]⟩))∧V.cell? ⟨w1.heap.size,2,none⟩=some (.bool (false)))
    (first|with_reducible exact HK9.out _ xc9|with_reducible exact HQ9.out|with_reducible exact HK9.out _ (Below.refl _ _))
    (first
      | (go_at_call 223;first
          | (with_reducible refine(HD1.out _ (HB9.out _ xc9)).mono ?_)
          | (with_reducible refine(HD2.out _ (HB9.out _ xc9)).mono ?_)
         rintro e w2 ⟨rfl,hb1⟩;replace xc9:=Qa xc9 hb1;clear hb1)
      | (go_at_call 129;first
          | (with_reducible refine(HT1.out _).mono ?_)
          | (with_reducible refine(HT2.out _).mono ?_)
         rintro e w2 ⟨rfl,hb1⟩;replace xc9:=Qa xc9 hb1;clear hb1)
      | (go_at_call 70;with_reducible refine(HU.out _).mono ?_;rintro e w2 ⟨rfl,hb1⟩;replace xc9:=Qa xc9 hb1;clear hb1)
      | (go_at_call 73;with_reducible refine(HO.out _).mono ?_;rintro e w9 ⟨rfl,hb1⟩;replace xc9:=Qa xc9 hb1;clear hb1
         have s9:=HS9.out _ xc9;obtain⟨a0,a1,a2,a3,a4⟩:=s9.cells;have fz:=s9.fz;have HQ9:=Qc (HQ.out w9 d1 d2 U xc9)))
  have hp:=s9.put d1 d2 U;have hch:=Jq w9 (w.heap.size+1+1) d1 d2 U;obtain⟨b0,b1,b2,b3,b4⟩:=hp.cells;go_wp2;refine bodyPost_ret (v:=snV d1 d2 U) (by simp[results,Tryz.results76,go_sem,b0,b1,b2,b3,b4]) rfl ⟨rfl,?_⟩
  exact(HB9.out _ xc9).trans (hch.below (by rintro b rfl;omega))
theorem block_leafP (w:World) (k:Int) (v1 v2:Value) (h i:Nat) (ht:Tb w) (t1 t2:BA) (hs1:t1.size<4611686018427387904) (hs2:t2.size<4611686018427387904) (r1 r2:BA) (hr1:dg (clk k) t1=r1) (hr2:dg (clk k) t2=r2) (U:Pq) (hU:un t1 t2=U)
    (HE1:Hid (∀W,Zb w W->Zr 214 #[v1,bkV h i] W (wo t1)))
    (HE2:Hid (∀W,Zb w W->Zr 216 #[v2,bkV h i] W (wo t2))) :
    Zr 76 #[wkV k v1 107 v2,bkV h i] w (snV r1 r2 U):=by
  have HD1:Hid (∀W,Zb w W->Zr 222 #[.string t1,.int .i64 k] W (.string r1)):=fun W hb=>YR W (ht.next hb) k t1 hs1 r1 hr1
  have HD2:Hid (∀W,Zb w W->Zr 222 #[.string t2,.int .i64 k] W (.string r2)):=fun W hb=>YR W (ht.next hb) k t2 hs2 r2 hr2
  have HT1:Hid (∀W,Zr 129 #[wo t1] W (.string t1)):=fun W=>UQ W t1
  have HT2:Hid (∀W,Zr 129 #[wo t2] W (.string t2)):=fun W=>UQ W t2
  have HU:Hid (∀W,Zr 70 #[.string t1,.string t2] W (pv U)):=fun W=>Y8 W _ _ U hU
  have HO:Hid (∀W,Zr 73 #[pv U,.agg #[.string ⟨#[]⟩,.string ⟨#[]⟩,.bool false]] W (pv U)):=fun W=>JR W U none U (by cases U <;> rfl)
  obtain⟨W0,hW0,hb0,hB⟩:=U1 w k v1 107 v2 (h:Int) (i:Int);have HX:Hid (∀V,Zb W0 V->V.cell? ⟨w.heap.size,1,none⟩=some (.iface 69 v1)∧V.cell? ⟨w.heap.size,2,none⟩=some (.iface 107 v2)∧V.cell? ⟨w.heap.size+1,0,none⟩=some (.int .i64 (h:Int))∧V.cell? ⟨w.heap.size+1,1,none⟩=some (.int .u64 (i:Int))):=fun V hb=>⟨(hB.next hb).c1,(hB.next hb).c2,(hB.next hb).d0,(hB.next hb).d1⟩
  have HB:=Qc hB;have xc:=(Below.refl W0.heap.size W0).drew;obtain⟨k1,k2,k3,k4⟩:=HX.out W0 (Below.refl _ _);clear hB ht hs1 hs2 hr1 hr2 hU
  go_enter Tryz.func76,Tryz.ntmps76
  go_upto_region 1 with (fail)
  try rw[hW0]
  clear hW0
  go_region_held3 (fun V=>V.cell? ⟨w.heap.size,1,none⟩=some (.iface 69 v1)∧V.cell? ⟨w.heap.size,2,none⟩=some (.iface 107 v2)∧V.cell? ⟨w.heap.size+1,0,none⟩=some (.int .i64 (h:Int))∧V.cell? ⟨w.heap.size+1,1,none⟩=some (.int .u64 (i:Int)))
    (first|with_reducible exact HX.out _ xc|with_reducible exact HX.out _ (Below.refl _ _))
    (first
      | (go_at_call 214;with_reducible refine(HE1.out _ (Qa hb0 xc)).mono ?_;rintro e w1 ⟨rfl,hb1⟩;replace xc:=Qa xc hb1;clear hb1)
      | (go_at_call 216;with_reducible refine(HE2.out _ (Qa hb0 xc)).mono ?_;rintro e w1 ⟨rfl,hb1⟩;replace xc:=Qa xc hb1;clear hb1))
  have x5:=HB.out.next xc;have xb:=Qa hb0 xc;clear k1 k2 k3 k4 HX
  go_upto_region 3 with (fail)
  obtain⟨F,hFe,h3,hb3⟩:=Jp w1
  try rw[hFe]
  clear hFe;have x6:=x5.next hb3;have xbF:=Qa xb hb3;have hl9:w.heap.size+1+1<w1.heap.size:=x5.s5.lt;have HB9:Hid (∀V,Zb F V->Zb w V):=fun V hb=>Qa xbF hb
  have HK9:Hid (∀V,Zb F V->V.cell? ⟨w.heap.size,0,none⟩=some (.int .i64 k)∧V.cell? ⟨w1.heap.size,0,none⟩=some (.string (⟨#[]⟩))∧V.cell? ⟨w1.heap.size,1,none⟩=some (.string (⟨#[]⟩))∧V.cell? ⟨w1.heap.size,2,none⟩=some (.bool (false))):=fun V hb=>⟨(x6.next hb).c0,(h3.next hb).cells⟩
  have HQ:Hid (∀V x y q,Zb F V->(YY V (w.heap.size+1+1) x y q).cell? ⟨w.heap.size,0,none⟩=some (.int .i64 k)∧(YY V (w.heap.size+1+1) x y q).cell? ⟨w1.heap.size,0,none⟩=some (.string (⟨#[]⟩))∧(YY V (w.heap.size+1+1) x y q).cell? ⟨w1.heap.size,1,none⟩=some (.string (⟨#[]⟩))∧(YY V (w.heap.size+1+1) x y q).cell? ⟨w1.heap.size,2,none⟩=some (.bool (false))):=fun V x y q hb=>by
    obtain⟨q0,q1,q2,q3⟩:=HK9.out V hb;have n1:w.heap.size≠w.heap.size+1+1:=by omega
    have n2:w1.heap.size≠w.heap.size+1+1:=by omega
    exact⟨Qu x y q q0 n1,Qu x y q q1 n2,Qu x y q q2 n2,Qu x y q q3 n2⟩
  have HS9:Hid (∀V,Zb F V->S5 V (w.heap.size+1+1) ⟨#[]⟩ ⟨#[]⟩ none):=fun V hb=>(x6.next hb).s5
  obtain⟨e0,e1,e2,e3⟩:=HK9.out F (Below.refl _ _);have xc9:=(Below.refl F.heap.size F).drew;clear x5 x6 xb hb3 HE1 HE2 HB h3 xc hl9
  go_upto_region 9 with (fail)
  go_region_held3 (fun V=>V.cell? ⟨w.heap.size,0,none⟩=some (.int .i64 k)∧V.cell? ⟨w1.heap.size,0,none⟩=some (.string (⟨#[]⟩))∧V.cell? ⟨w1.heap.size,1,none⟩=some (.string (⟨#[]⟩))∧V.cell? ⟨w1.heap.size,2,none⟩=some (.bool (false)))
    (first|with_reducible exact HK9.out _ xc9|with_reducible exact HQ9.out|with_reducible exact HK9.out _ (Below.refl _ _))
    (first
      | (go_at_call 222;first
          | (with_reducible refine(HD1.out _ (HB9.out _ xc9)).mono ?_)
          | (with_reducible refine(HD2.out _ (HB9.out _ xc9)).mono ?_)
         rintro e w2 ⟨rfl,hb1⟩;replace xc9:=Qa xc9 hb1;clear hb1)
      | (go_at_call 129;first
          | (with_reducible refine(HT1.out _).mono ?_)
          | (with_reducible refine(HT2.out _).mono ?_)
         rintro e w2 ⟨rfl,hb1⟩;replace xc9:=Qa xc9 hb1;clear hb1)
      | (go_at_call 70;with_reducible refine(HU.out _).mono ?_;rintro e w2 ⟨rfl,hb1⟩;replace xc9:=Qa xc9 hb1;clear hb1)
      | (go_at_call 73;with_reducible refine(HO.out _).mono ?_;rintro e w9 ⟨rfl,hb1⟩;replace xc9:=Qa xc9 hb1;clear hb1
         have s9:=HS9.out _ xc9;obtain⟨a0,a1,a2,a3,a4⟩:=s9.cells;have fz:=s9.fz;have HQ9:=Qc (HQ.out w9 r1 r2 U xc9)))
  have hp:=s9.put r1 r2 U;have hch:=Jq w9 (w.heap.size+1+1) r1 r2 U;obtain⟨b0,b1,b2,b3,b4⟩:=hp.cells;go_wp2;refine bodyPost_ret (v:=snV r1 r2 U) (by simp[results,Tryz.results76,go_sem,b0,b1,b2,b3,b4]) rfl ⟨rfl,?_⟩
  exact(HB9.out _ xc9).trans (hch.below (by rintro b rfl;omega))
theorem block_nodeP (w:World) (k:Int) (v1 v2:Value) (g h i j m:Nat) (hg:g=h+1) (hh:g<=40) (hj:j=2*i) (hm:m=j+1) (hi:i<1099511627776) (ht:Tb w)
    (x1 y1 x2 y2:BA) (q1 q2:Pq) (hs:x1.size<=32∧y1.size<=32∧x2.size<=32∧y2.size<=32) (t1 t2:BA) (ht1:QE x1 x2=t1) (ht2:QE y1 y2=t2) (r1 r2:BA) (hr1:dg (clk k) t1=r1) (hr2:dg (clk k) t2=r2) (U Y Z:Pq) (hU:un t1 t2=U) (hY:q1.or q2=Y) (hZ:U.or Y=Z)
    (HE1:Hid (∀W,Zb w W->Calls Tryz.prog 214 #[v1,bkV g i] W fun e w'=>e = .returned .nilIface∧Zb W w'))
    (HE2:Hid (∀W,Zb w W->Calls Tryz.prog 216 #[v2,bkV g i] W fun e w'=>e = .returned .nilIface∧Zb W w'))
    (HL1:Hid (∀W,Zb w W->Zr 76 #[wkV k v1 107 v2,bkV h j] W (snV x1 y1 q1)))
    (HL2:Hid (∀W,Zb w W->Zr 76 #[wkV k v1 107 v2,bkV h m] W (snV x2 y2 q2))) :
    Zr 76 #[wkV k v1 107 v2,bkV g i] w (snV r1 r2 Z):=by
  have hs1:t1.size<4611686018427387904:=by rw[<-ht1,Yx];omega
  have hs2:t2.size<4611686018427387904:=by rw[<-ht2,Yx];omega
  have HD1:Hid (∀W,Zb w W->Zr 222 #[.string t1,.int .i64 k] W (.string r1)):=fun W hb=>YR W (ht.next hb) k t1 hs1 r1 hr1
  have HD2:Hid (∀W,Zb w W->Zr 222 #[.string t2,.int .i64 k] W (.string r2)):=fun W hb=>YR W (ht.next hb) k t2 hs2 r2 hr2
  have HT1:Hid (∀W,Zr 129 #[wo t1] W (.string t1)):=fun W=>UQ W t1
  have HT2:Hid (∀W,Zr 129 #[wo t2] W (.string t2)):=fun W=>UQ W t2
  have HU:Hid (∀W,Zr 70 #[.string t1,.string t2] W (pv U)):=fun W=>Y8 W _ _ U hU
  have HO:Hid (∀W,Zr 73 #[pv U,pv Y] W (pv Z)):=fun W=>JR W U Y Z hZ
  have HN1:Hid (∀W,Zr 128 #[.string x1,.string x2] W (.string t1)):=fun W=>by have:=U7 W x1 x2 (by omega) (by omega);rwa [ht1] at this
  have HN2:Hid (∀W,Zr 128 #[.string y1,.string y2] W (.string t2)):=fun W=>by have:=U7 W y1 y2 (by omega) (by omega);rwa [ht2] at this
  have HOY:Hid (∀W,Zr 73 #[pv q1,pv q2] W (pv Y)):=fun W=>JR W q1 q2 Y hY
  obtain⟨W0,hW0,hb0,hB⟩:=U1 w k v1 107 v2 (g:Int) (i:Int);have HX:Hid (∀V,Zb W0 V->V.cell? ⟨w.heap.size,1,none⟩=some (.iface 69 v1)∧V.cell? ⟨w.heap.size,2,none⟩=some (.iface 107 v2)∧V.cell? ⟨w.heap.size+1,0,none⟩=some (.int .i64 (g:Int))∧V.cell? ⟨w.heap.size+1,1,none⟩=some (.int .u64 (i:Int))):=fun V hb=>⟨(hB.next hb).c1,(hB.next hb).c2,(hB.next hb).d0,(hB.next hb).d1⟩
  have HB:=Qc hB;have xc:=(Below.refl W0.heap.size W0).drew;obtain⟨k1,k2,k3,k4⟩:=HX.out W0 (Below.refl _ _);have u1:(g:Int) - 1=(h:Int):=by omega
  have u2:2*(i:Int)=(j:Int):=by omega
  have u3:(j:Int)+1=(m:Int):=by omega
  have u4:(j:Int)<=2199023255552:=by omega
  have u5:(g:Int)<=40:=by omega
  have HU9:=Qc (And.intro u1 (And.intro u2 (And.intro u3 (And.intro u4 u5))));clear hB ht hs1 hs2 hr1 hr2 hU hY hZ ht1 ht2 hs hg hh hj hi hm u1 u2 u3 u4 u5
  go_enter Tryz.func76,Tryz.ntmps76
  go_upto_region 1 with (fail)
  try rw[hW0]
  clear hW0
  go_region_held3 (fun V=>V.cell? ⟨w.heap.size,1,none⟩=some (.iface 69 v1)∧V.cell? ⟨w.heap.size,2,none⟩=some (.iface 107 v2)∧V.cell? ⟨w.heap.size+1,0,none⟩=some (.int .i64 (g:Int))∧V.cell? ⟨w.heap.size+1,1,none⟩=some (.int .u64 (i:Int)))
    (first|with_reducible exact HX.out _ xc|with_reducible exact HX.out _ (Below.refl _ _))
    (first
      | (go_at_call 214;with_reducible refine(HE1.out _ (Qa hb0 xc)).mono ?_;rintro e w1 ⟨rfl,hb1⟩;replace xc:=Qa xc hb1;clear hb1)
      | (go_at_call 216;with_reducible refine(HE2.out _ (Qa hb0 xc)).mono ?_;rintro e w1 ⟨rfl,hb1⟩;replace xc:=Qa xc hb1;clear hb1))
  have x5:=HB.out.next xc;have xb:=Qa hb0 xc;clear k1 k2 k3 k4 HX
  go_upto_region 3 with (fail)
  obtain⟨F,hFe,h3,hb3⟩:=Jp w1
  try rw[hFe]
  clear hFe;have x6:=x5.next hb3;have xbF:=Qa xb hb3;have hl9:w.heap.size+1+1<w1.heap.size:=x5.s5.lt;have ⟨c0,c1,c2,d0,d1,_⟩:=x6;obtain⟨u1,u2,u3,u4,u5⟩:=HU9.out;clear x5 xb hb3 HE1 HE2 HB xc;have H3:=Qc h3;have H6:=Qc x6;clear h3 x6
  go_upto_region 5 with (go_at_call 76;with_reducible refine(HL1.out _ xbF).mono ?_;rintro e w2 ⟨rfl,hb2⟩)
  obtain⟨F2,hFe,s51,hb4,hsz2⟩:=Qb7 w2 x1 y1 q1
  try rw[hFe]
  clear hFe;have y6:=H6.out.next (Qa hb2 hb4);have ⟨c0',c1',c2',d0',d1',_⟩:=y6;have xb2:=Qa xbF (Qa hb2 hb4);have hz2:w1.heap.size<w2.heap.size:=(H3.out.next hb2).lt;clear c0 c1 c2 d0 d1 y6
  go_upto_region 6 with (go_at_call 76;with_reducible refine(HL2.out _ xb2).mono ?_;rintro e w3 ⟨rfl,hb5⟩)
  obtain⟨F3,hFe,s52,hb6,hsz3⟩:=Qb7 w3 x2 y2 q2
  try rw[hFe]
  clear hFe;have s53:=s51.next (Qa hb5 hb6);obtain⟨a0,a1,a2,a3,a4⟩:=s53.cells;obtain⟨b0,b1,b2,b3,b4⟩:=s52.cells;have xb3:=Qa xb2 (Qa hb5 hb6);have HA:Hid (∀V,Zb F3 V->Bw V w.heap.size k v1 107 v2 (g:Int) (i:Int)∧P3 V w1.heap.size none∧S5 V w2.heap.size x1 y1 q1∧S5 V w3.heap.size x2 y2 q2):=fun V hb=>⟨H6.out.next (Qa (Qa (Qa (Qa hb2 hb4) hb5) hb6) hb),H3.out.next (Qa (Qa (Qa (Qa hb2 hb4) hb5) hb6) hb),s53.next hb,s52.next hb⟩
  clear c0' c1' c2' d0' d1' hb2 hb4 hb5 hb6 xb2 s51 s52 s53 hsz2 hsz3 u1 u2 u3 u4 u5 HU9 HL1 HL2 H3 H6;have xcA:=Below.refl F3.heap.size F3
  go_upto_region 7 with (go_at_call 128;with_reducible refine(HN1.out _).mono ?_;rintro e w4 ⟨rfl,hb7⟩)
  replace xcA:=Qa xcA hb7;have ⟨_,_,z51,z52⟩:=HA.out _ xcA;obtain⟨a0,a1,a2,a3,a4⟩:=z51.cells;obtain⟨b0,b1,b2,b3,b4⟩:=z52.cells
  go_upto_region 8 with (go_at_call 128;with_reducible refine(HN2.out _).mono ?_;rintro e w5 ⟨rfl,hb8⟩)
  replace xcA:=Qa xcA hb8;have ⟨_,_,z51',z52'⟩:=HA.out _ xcA;obtain⟨a0,a1,a2,a3,a4⟩:=z51'.cells;obtain⟨b0,b1,b2,b3,b4⟩:=z52'.cells;clear z51 z52 z51' z52' hb7 hb8
  go_upto_region 9 with (go_at_call 73;with_reducible refine(HOY.out _).mono ?_;rintro e w6 ⟨rfl,hb9⟩;replace xcA:=Qa xcA hb9;obtain⟨y6,h3,_,_⟩:=HA.out _ xcA;obtain⟨g0,g1,g2⟩:=h3.cells;have gf:=h3.fz)
  obtain⟨F,hFe⟩:=Ze (OC w6 w1.heap.size Y);have hp3:=h3.put Y;have hch3:=Ud w6 w1.heap.size Y;rw[hFe] at hp3 hch3;unfold OC at hFe
  try rw[hFe]
  clear hFe;have x6:Bw F w.heap.size k v1 107 v2 (g:Int) (i:Int):=y6.ch hch3 hl9;have xbF:Zb w F:=(Qa xb3 xcA).trans (hch3.below (by rintro b rfl;omega))
  clear h3 g0 g1 g2 gf y6 hch3 xcA xb3 hb9;have h3:=hp3;clear hp3;have HB9:Hid (∀V,Zb F V->Zb w V):=fun V hb=>Qa xbF hb
  have HK9:Hid (∀V,Zb F V->V.cell? ⟨w.heap.size,0,none⟩=some (.int .i64 k)∧V.cell? ⟨w1.heap.size,0,none⟩=some (.string (pA Y))∧V.cell? ⟨w1.heap.size,1,none⟩=some (.string (pB' Y))∧V.cell? ⟨w1.heap.size,2,none⟩=some (.bool (Option.isSome Y))):=fun V hb=>⟨(x6.next hb).c0,(h3.next hb).cells⟩
  have HQ:Hid (∀V x y q,Zb F V->(YY V (w.heap.size+1+1) x y q).cell? ⟨w.heap.size,0,none⟩=some (.int .i64 k)∧(YY V (w.heap.size+1+1) x y q).cell? ⟨w1.heap.size,0,none⟩=some (.string (pA Y))∧(YY V (w.heap.size+1+1) x y q).cell? ⟨w1.heap.size,1,none⟩=some (.string (pB' Y))∧(YY V (w.heap.size+1+1) x y q).cell? ⟨w1.heap.size,2,none⟩=some (.bool (Option.isSome Y))):=fun V x y q hb=>by
    obtain⟨q0,q1,q2,q3⟩:=HK9.out V hb;have n1:w.heap.size≠w.heap.size+1+1:=by omega
    have n2:w1.heap.size≠w.heap.size+1+1:=by omega
    exact⟨Qu x y q q0 n1,Qu x y q q1 n2,Qu x y q q2 n2,Qu x y q q3 n2⟩
  have HS9:Hid (∀V,Zb F V->S5 V (w.heap.size+1+1) ⟨#[]⟩ ⟨#[]⟩ none):=fun V hb=>(x6.next hb).s5
  obtain⟨e0,e1,e2,e3⟩:=HK9.out F (Below.refl _ _);have xc9:=(Below.refl F.heap.size F).drew;clear x6 h3 hl9
  go_region_held3 (fun V=>V.cell? ⟨w.heap.size,0,none⟩=some (.int .i64 k)∧V.cell? ⟨w1.heap.size,0,none⟩=some (.string (pA Y))∧V.cell? ⟨w1.heap.size,1,none⟩=some (.string (pB' Y))∧V.cell? ⟨w1.heap.size,2,none⟩=some (.bool (Option.isSome Y)))
    (first|with_reducible exact HK9.out _ xc9|with_reducible exact HQ9.out|with_reducible exact HK9.out _ (Below.refl _ _))
    (first
      | (go_at_call 222;first
          | (with_reducible refine(HD1.out _ (HB9.out _ xc9)).mono ?_)
          | (with_reducible refine(HD2.out _ (HB9.out _ xc9)).mono ?_)
         rintro e w2 ⟨rfl,hb1⟩;replace xc9:=Qa xc9 hb1;clear hb1)
      | (go_at_call 129;first
          | (with_reducible refine(HT1.out _).mono ?_)
          | (with_reducible refine(HT2.out _).mono ?_)
         rintro e w2 ⟨rfl,hb1⟩;replace xc9:=Qa xc9 hb1;clear hb1)
      | (go_at_call 70;with_reducible refine(HU.out _).mono ?_;rintro e w2 ⟨rfl,hb1⟩;replace xc9:=Qa xc9 hb1;clear hb1)
      | (go_at_call 73;with_reducible refine(HO.out _).mono ?_;rintro e w9 ⟨rfl,hb1⟩;replace xc9:=Qa xc9 hb1;clear hb1
         have s9:=HS9.out _ xc9;obtain⟨a0,a1,a2,a3,a4⟩:=s9.cells;have fz:=s9.fz;have HQ9:=Qc (HQ.out w9 r1 r2 Z xc9)))
  have hp:=s9.put r1 r2 Z;have hch:=Jq w9 (w.heap.size+1+1) r1 r2 Z;obtain⟨b0,b1,b2,b3,b4⟩:=hp.cells;go_wp2;refine bodyPost_ret (v:=snV r1 r2 Z) (by simp[results,Tryz.results76,go_sem,b0,b1,b2,b3,b4]) rfl ⟨rfl,?_⟩
  exact(HB9.out _ xc9).trans (hch.below (by rintro b rfl;omega))
end Go.Proofs.YtdocjikpcbmcgaaGreatDoor
