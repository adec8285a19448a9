/- Own work. -/
import Derived.Test.YtoblgjledefdbabGreatDoorQs31
set_option maxRecDepth 100000
set_option maxHeartbeats 4000000
namespace Go.Proofs.YtoblgjledefdbabGreatDoor
open Go.RowKit
attribute [local go_sem ↓] Go.wp_at_zero Go.wp_at_succ
open Go.Proofs.Tryz
def Cm(w:World)(mo:Option Nat)(M:Nat->Nat->Option Nat):Prop :=
 (∃b,mo=some b∧Mi w b (fun h k=>if 0<=h then M h.toNat k else none))∨(mo=none ∧ ∀h k,M h k=none)
theorem Cm.next{w W:World}{mo:Option Nat}{M:Nat->Nat->Option Nat}(h:Cm w mo M)(hb:Below w.heap.size w W):Cm W mo M:=by
 rcases h with ⟨b,e,hm⟩|⟨e,hm⟩
 ·exact .inl ⟨b,e,hm.same (hb.block b hm.lt)⟩
 ·exact .inr ⟨e,hm⟩
theorem Cm.look{w:World}{mo:Option Nat}{M:Nat->Nat->Option Nat}(hm:Cm w mo M){h k:Nat}(hh:h<=40)(hk:k<18446744073709551616) :
  (Instr.lookup 128 (.map mo) (.agg #[.int .i64 h,.int .u64 k]) true).run prog w= .ok (.tuple #[.int .i64 (((M h k).getD 0:Nat):Int),.bool (M h k).isSome]) w:=by
 have hf:US (h:Int) k:=⟨⟨by omega,by omega⟩,hk⟩
 rcases hm with ⟨b,rfl,hm⟩|⟨rfl,hm⟩
 ·have:=hm.look hf true;simp only[Int.natCast_nonneg,if_true,Int.toNat_natCast] at this;exact this
 ·obtain⟨l,hl⟩:=U3 hf;rw[hm h k];have h1:=Tryz.keyed.check w true hl;unfold kv at h1;simp[Instr.lookup,run_underlying underlying128,h1,Result.andThen]
  rfl
abbrev lsV(k:Int)(la:OA)(n lc:Nat)(mo:Option Nat):Value := .agg #[.int .i64 k,.slice la n lc,.map mo]
def lsE(c:Nat)(L:LB)(M:Nat->Nat->Option Nat)(h i:Nat):Value:=if (M h i).isSome then ba (nd c L h i) else if 0<h then .nilIface else wo (Qw (L.getD i ByteArray.empty))
theorem QdS(w:World)(a b c:Value)(T:Nat)(h i:Int):∃W,(w.alloc (.cells #[a,b,c] T)).alloc (.cells #[.int .i64 h,.int .u64 i] 131)=W∧Below w.heap.size w W ∧
  (W.cell? ⟨w.heap.size,0,none⟩=some a∧W.cell? ⟨w.heap.size,1,none⟩=some b∧W.cell? ⟨w.heap.size,2,none⟩=some c)∧(W.cell? ⟨w.heap.size+1,0,none⟩=some (.int .i64 h)∧W.cell? ⟨w.heap.size+1,1,none⟩=some (.int .u64 i))∧W.heap.size=w.heap.size+2:=by
 have h1:(w.alloc (.cells #[a,b,c] T)).heap[w.heap.size]? = some (.cells #[a,b,c] T (0,0)):=Lr w _;have h2:((w.alloc (.cells #[a,b,c] T)).alloc (.cells #[.int .i64 h,.int .u64 i] 131)).heap[w.heap.size]? = some (.cells #[a,b,c] T (0,0)):=((bal (Lc _ (w.alloc (.cells #[a,b,c] T))) _).block _ (by rw[LK];omega)).trans h1
 have h3:=Lr (w.alloc (.cells #[a,b,c] T)) (.cells #[.int .i64 h,.int .u64 i] 131);rw[LK] at h3;refine⟨_,rfl,bal (bal (Lc _ _) _) _,⟨?_,?_,?_⟩,⟨?_,?_⟩,by rw[LK,LK]⟩
 ·rw[cell_of_row _ w.heap.size 0 _ _ (0,0) h2];rfl
 ·rw[cell_of_row _ w.heap.size 1 _ _ (0,0) h2];rfl
 ·rw[cell_of_row _ w.heap.size 2 _ _ (0,0) h2];rfl
 ·rw[cell_of_row _ (w.heap.size+1) 0 _ _ (0,0) h3];rfl
 ·rw[cell_of_row _ (w.heap.size+1) 1 _ _ (0,0) h3];rfl
theorem QjK(w:World)(ht:Tb w)(k:Int)(la:OA)(lb lo lc:Nat)(L:LB)(hr:RdS w la lb lo L.length L)(hsz:∀s∈L,s.size<=140737488351232)(hm:L.length<=1099511627776)(mo:Option Nat)(M:Nat->Nat->Option Nat)(hM:Cm w mo M)(h i:Nat)(hh:h<=40)(hi:(i+1)*2^h<=L.length)(r:Value)(hq:lsE (clk k) L M h i=r) :
  Calls prog 297 #[lsV k la L.length lc mo,.agg #[.int .i64 h,.int .u64 i]] w fun e w'=>e= .returned r∧Below w.heap.size w w':=by
 have hi64:i<18446744073709551616:=by
  have:=IG (i+1) (Nat.one_le_two_pow (n:=h));omega
 obtain⟨W0,hW0,hb0,⟨c0,c1,c2⟩,⟨d0,d1⟩,hz⟩:=QdS w (.int .i64 k) (.slice la L.length lc) (.map mo) 133 (h:Int) (i:Int);have hlk:=(hM.next hb0).look hh hi64;have hr0:=hr.next hb0 (Lb _)
 cases e:M h i with
 | some j=>
  obtain rfl:ba (nd (clk k) L h i)=r:=by rw[<-hq,lsE,e];rfl
  rw[e] at hlk;simp only[Option.getD_some,Option.isSome_some] at hlk;have HTr:=Qk7 W0 (ht.next hb0) k la lb lo L.length lc L hr0 hsz (by omega) h i hh hi _ rfl
  generalize nd (clk k) L h i=d at HTr;clear hr hsz hm hM hh hi hq e ht hi64 hr0
  go_enter func297,ntmps297
  go_upto_region 1 with (fail)
  try rw[hW0]
  clear hW0 hz
  go_wp2_with (go_at_call 298;with_reducible refine HTr.mono ?_;rintro e w1 ⟨rfl,hb1⟩)
  go_ret
  exact⟨rfl,Qa hb0 hb1⟩
 | none=>
  rw[e] at hlk;simp only[Option.getD_none,Option.isSome_none] at hlk
  by_cases h0:0<h
  ·obtain rfl:Value.nilIface=r:=by rw[<-hq,lsE,e];simp[h0]
   have hz0:(0:Int)<(h:Int):=by omega
   clear hr hsz hm hM hh hi hq e ht hi64 hr0 h0
   go_enter func297,ntmps297
   go_upto_region 1 with (fail)
   try rw[hW0]
   clear hW0 hz;go_wp2
   go_ret
   exact⟨rfl,hb0⟩
  ·obtain rfl:h=0:=by omega
   obtain rfl:wo (Qw (L.getD i ByteArray.empty))=r:=by rw[<-hq,lsE,e];simp
   rw[ND,Nr] at hi;obtain rfl:=hr.ptr (by omega)
   have ci:=hr0.at (k:=i) (by omega)
   have hsi:=hsz _ (QI (show i<L.length by omega))
   obtain⟨x,hx⟩:∃x,L.getD i ByteArray.empty=x:=⟨_,rfl⟩;rw[hx] at ci hsi ⊢;have HLf:=Qak W0 x (by omega)
   have z0:(0:Int)<=(i:Int):=Lf _;have z1:(i:Int)<(L.length:Int):=by omega
   have z2:(L.length:Int)<=1099511627776:=by omega
   rw[show((0:Nat):Int)=0 from rfl] at hW0 d0 hlk ⊢
   clear hr hsz hM hq e ht hi64 hr0 h0 hx hsi hm hi hh
   go_enter func297,ntmps297
   go_upto_region 1 with (fail)
   try rw[hW0]
   clear hW0 hz
   go_wp2_with (go_at_call 96;with_reducible refine HLf.mono ?_;rintro e w1 ⟨rfl,hb1⟩)
   go_ret
   exact⟨rfl,Qa hb0 hb1⟩
theorem Qmr(w:World)(a:Nat):Calls prog 303 #[.int .u64 a] w fun e w'=>e= .returned (.bool false)∧w=w':=by
 go_enter func303,ntmps303;go_wp2
 go_ret
 exact⟨rfl,rfl⟩
def cmpE(a b:Nat):Int:=if a<b then -1 else if b<a then 1 else 0
theorem Qef(w:World)(a b:Nat):Calls prog 302 #[.int .u64 a,.int .u64 b] w fun e w'=>e= .returned (.int .i64 (cmpE a b))∧w=w':=by
 have HA:Hid (∀W x,Calls prog 303 #[.int .u64 ((x:Nat):Int)] W fun e w'=>e= .returned (.bool false)∧W=w'):=fun W x=>Qmr W x
 unfold cmpE
 by_cases h1:a<b
 ·rw[Lo h1];have z:(a:Int)<(b:Int):=by omega
  clear h1
  go_enter func302,ntmps302
  go_wp2_with (go_at_call 303;with_reducible refine(HA.out _ _).mono ?_;rintro e w1 ⟨rfl,rfl⟩)
  go_ret
  exact⟨rfl,rfl⟩
 ·rw[Le h1];have z:¬(a:Int)<(b:Int):=by omega
  by_cases h2:b<a
  ·rw[Lo h2];have z2:(b:Int)<(a:Int):=by omega
   clear h1 h2
   go_enter func302,ntmps302
   go_wp2_with (go_at_call 303;with_reducible refine(HA.out _ _).mono ?_;rintro e w1 ⟨rfl,rfl⟩)
   go_ret
   exact⟨rfl,rfl⟩
  ·rw[Le h2];have z2:¬(b:Int)<(a:Int):=by omega
   clear h1 h2
   go_enter func302,ntmps302
   go_wp2_with (go_at_call 303;with_reducible refine(HA.out _ _).mono ?_;rintro e w1 ⟨rfl,rfl⟩)
   go_ret
   exact⟨rfl,rfl⟩
theorem Qeb(w:World)(a b:Nat)(x:BA)(r:Int)(hr:cmpE a b=r):Calls prog 301 #[.agg #[.int .u64 a,.string x],.int .u64 b] w fun e w'=>e= .returned (.int .i64 r)∧Below w.heap.size w w':=by
 have HC:Hid (∀W,Calls prog 302 #[.int .u64 a,.int .u64 b] W fun e w'=>e= .returned (.int .i64 r)∧W=w'):=fun W=>by subst hr;exact Qef W a b
 have hb0:=bal (Lc w.heap.size w) (.cells #[.int .u64 a,.string x] 41);clear hr
 go_enter func301,ntmps301
 go_wp2_with (go_at_call 302;with_reducible refine(HC.out _).mono ?_;rintro e w1 ⟨rfl,rfl⟩)
 go_ret
 exact⟨rfl,hb0⟩
abbrev byV:Value := .func (.func 301) #[] #[]
theorem Qf8(w:World)(ca:OA)(cb co cc:Nat)(l:List (Nat×BA))(hc:RdK w ca cb co l.length l)(hm:l.length<=8796093022208)(hp:Asc (ixs l))(i p:Nat)(hpl:p<l.length)(hi:(l.getD p noC).1=i) :
  Calls prog 300 #[.slice ca l.length cc,.int .u64 i,byV] w fun e w'=>e= .returned (.tuple #[.int .i64 p,.bool true])∧Below w.heap.size w w':=by
 obtain rfl:=hc.ptr (by omega)
 have hcmp:∀j,j<l.length->(j<p->cmpE (l.getD j noC).1 i = -1)∧(p<j->cmpE (l.getD j noC).1 i=1)∧(j=p->cmpE (l.getD j noC).1 i=0):=fun j hj=>by
  have hw:=List.pairwise_iff_getElem.1 hp;have hat:∀t (ht:t<l.length),(ixs l)[t]'(by rw[LI];exact ht)=(l.getD t noC).1:=fun t ht=>by
   rw[Wn,La,Ld ht];rfl
  refine⟨fun h=> ?_,fun h=> ?_,fun h=> ?_⟩
  ·have:=hw j p (by rw[LI];exact hj) (by rw[LI];exact hpl) h
   rw[hat j hj,hat p hpl,hi] at this;rw[cmpE,Lo this]
  ·have:=hw p j (by rw[LI];exact hpl) (by rw[LI];exact hj) h
   rw[hat j hj,hat p hpl,hi] at this;rw[cmpE,Le (by omega),Lo this]
  ·subst h;rw[hi,cmpE,Le (NB _),Le (NB _)]
 have HC:Hid (∀W j,Below w.heap.size w W->j<l.length -> ∃(a:Nat) (x:BA) (r:Int),(j<p->r = -1)∧(p<j->r=1)∧(j=p->r=0)∧W.cell? ⟨cb,co+j*2,none⟩=some (.int .u64 a)∧W.cell? ⟨cb,co+j*2+1,none⟩=some (.string x) ∧ ∀V,Calls prog 301 #[.agg #[.int .u64 a,.string x],.int .u64 i] V fun e w'=>e= .returned (.int .i64 r)∧Below V.heap.size V w'):=fun W j hb hj=>by
  obtain⟨h1,h2⟩:=(hc.next hb).at hj;obtain⟨h3,h4,h5⟩:=hcmp j hj;exact⟨_,_,_,h3,h4,h5,h1,h2,fun V=>Qeb V _ i _ _ rfl⟩
 have z5:(l.length:Int)<=8796093022208:=by omega
 clear hc hp hi hcmp
 go_enter func300,ntmps300;go_wp2
 go_loopg [9,10] l.length (fun g x y wr=> ∃a b:Nat,g=b-a∧a<=p∧p<=b∧b<=l.length∧x= .int .i64 a∧y= .int .i64 b∧Below w.heap.size w wr)
 case atStart=>go_light;exact⟨0,l.length,by omega,Lm _,by omega,Lb _,rfl,rfl,Lc _ _⟩
 case round=>
  obtain⟨a,b,rfl,ha,hb,hbl,rfl,rfl,hbw⟩:=hrel
  by_cases hlt:a<b
  ·obtain⟨m,hmm⟩:∃m,(a+b)/2=m:=⟨_,rfl⟩;have z1:(a:Int)<(b:Int):=by omega
   obtain⟨s,hs⟩:∃s,a+b=s:=⟨_,rfl⟩;have e1:(a:Int)+(b:Int)=(s:Int):=by omega
   have e2:(s:Int)/2=(m:Int):=by omega
   obtain⟨q,x,r,r1,r2,r3,c0,c1,HV⟩:=HC.out wr m hbw (by omega)
   have HV:=Qc HV;have m0:(0:Int)<=(m:Int):=Lf _;have m1:(m:Int)<(l.length:Int):=by omega
   have hmn:m*2=m+m:=by omega
   clear hmn
   by_cases hmp:m<p
   ·obtain rfl:=r1 hmp;have m2:m+1<=p:=hmp;have m3:b-(m+1)<b-a:=by omega
    clear r1 r2 r3 hmm hs hmp
    go_wp2_with (go_at_call 301;with_reducible refine(HV.out _).mono ?_;rintro e w1 ⟨rfl,hb1⟩)
    go_roundg (b-(m+1))
    case rel=>go_light;exact⟨m+1,b,rfl,m2,hb,hbl,by go_num,rfl,Qa hbw hb1⟩
    case measure=>go_light;omega
   ·have hr0:¬r<0:=by
     rcases Ic (NW hmp) with h|h
     ·rw[r2 h];decide
     ·rw[r3 h.symm];decide
    have m2:p<=m:=NW hmp;have m3:m-a<b-a:=by omega
    have m4:m<=l.length:=by omega
    clear r1 r2 r3 hmm hs hmp
    go_wp2_with (go_at_call 301;with_reducible refine(HV.out _).mono ?_;rintro e w1 ⟨rfl,hb1⟩)
    go_roundg (m-a)
    case rel=>go_light;exact⟨a,m,rfl,ha,m2,m4,rfl,rfl,Qa hbw hb1⟩
    case measure=>go_light;omega
  ·obtain rfl:a=p:=by omega
   obtain rfl:b=a:=by omega
   obtain⟨q,x,r,_,_,r3,c0,c1,HV⟩:=HC.out wr b hbw hpl;have HV:=Qc HV;obtain rfl:=r3 rfl;have z1:¬(b:Int)<(b:Int):=by omega
   have m0:(0:Int)<=(b:Int):=Lf _;have m1:(b:Int)<(l.length:Int):=by omega
   clear r3 hlt ha hb hbl
   go_wp2_with (go_at_call 301;with_reducible refine(HV.out _).mono ?_;rintro e w1 ⟨rfl,hb1⟩)
   exact LA (v := .tuple #[.int .i64 b,.bool true]) (by simp[results,results300,go_sem]) rfl ⟨rfl,Qa hbw hb1⟩
abbrev prV'(da:OA)(dn dc:Nat)(ca:OA)(cn cc:Nat)(mo:Option Nat):Value := .agg #[.slice da dn dc,.slice ca cn cc,.map mo]
def prE(D:LB)(V:Nat->BA)(M:Nat->Nat->Option Nat)(h i:Nat):Value:=if (M h i).isSome then ba (D.getD ((M h i).getD 0) ByteArray.empty) else if 0<h then .nilIface else wo (Qw (V i))
theorem Qko(w:World)(da:OA)(db dO dc:Nat)(D:LB)(hr:RdS w da db dO D.length D)(hm:D.length<=8796093022208)(ca:OA)(cb co cc:Nat)(l:List (Nat×BA))(hc:RdK w ca cb co l.length l)(hcm:l.length<=8796093022208)(hp:Asc (ixs l))(hv:∀x∈vls l,x.size<2305843009213693952)(V:Nat->BA)(mo:Option Nat)(M:Nat->Nat->Option Nat)(hM:Cm w mo M)(h i:Nat)(hh:h<=40)(hi:i<18446744073709551616)(hj:∀j,M h i=some j->j<D.length)(hq:h=0->M h i=none -> ∃p,p<l.length∧l.getD p noC=(i,V i))(r:Value)(hr':prE D V M h i=r) :
  Calls prog 299 #[prV' da D.length dc ca l.length cc mo,.agg #[.int .i64 h,.int .u64 i]] w fun e w'=>e= .returned r∧Below w.heap.size w w':=by
 obtain⟨W0,hW0,hb0,⟨c0,c1,c2⟩,⟨d0,d1⟩,hz⟩:=QdS w (.slice da D.length dc) (.slice ca l.length cc) (.map mo) 135 (h:Int) (i:Int);have hlk:=(hM.next hb0).look hh hi;have hr0:=hr.next hb0 (Lb _)
 cases e:M h i with
 | some j=>
  have hjl:=hj j e;obtain rfl:ba (D.getD j ByteArray.empty)=r:=by rw[<-hr',prE,e];rfl
  rw[e] at hlk;simp only[Option.getD_some,Option.isSome_some] at hlk;obtain rfl:=hr.ptr (by omega)
  have cj:=hr0.at hjl;generalize D.getD j ByteArray.empty=d at cj;have z0:(0:Int)<=(j:Int):=Lf _;have z1:(j:Int)<(D.length:Int):=by omega
  have z2:(D.length:Int)<=8796093022208:=by omega
  clear hr hm hc hcm hp hv hM hh hi hj hq hr' e hr0 hjl
  go_enter func299,ntmps299
  go_upto_region 1 with (fail)
  try rw[hW0]
  clear hW0 hz;go_wp2
  go_ret
  exact⟨rfl,hb0⟩
 | none=>
  rw[e] at hlk;simp only[Option.getD_none,Option.isSome_none] at hlk
  by_cases h0:0<h
  ·obtain rfl:Value.nilIface=r:=by rw[<-hr',prE,e];simp[h0]
   have hz0:(0:Int)<(h:Int):=by omega
   clear hr hm hc hcm hp hv hM hh hi hj hq hr' e hr0 h0
   go_enter func299,ntmps299
   go_upto_region 1 with (fail)
   try rw[hW0]
   clear hW0 hz;go_wp2
   go_ret
   exact⟨rfl,hb0⟩
  ·obtain rfl:h=0:=by omega
   obtain rfl:wo (Qw (V i))=r:=by rw[<-hr',prE,e];simp
   obtain⟨p,hpl,hpe⟩:=hq rfl e;have hS:=Qf8 W0 ca cb co cc l (hc.next hb0) hcm hp i p hpl (by rw[hpe])
   obtain rfl:=hc.ptr (by omega)
   have HCp:Hid (∀W,Below w.heap.size w W->W.cell? ⟨cb,co+p*2+1,none⟩=some (.string (V i))):=fun W hb=>by
    have:=((hc.next hb).at hpl).2;rw[hpe] at this;exact this
   have hxs:(V i).size<2305843009213693952:=by
    refine hv _ (List.mem_map.2 ⟨(i,V i),?_,rfl⟩)
    rw[<-hpe,La,Ld hpl];exact LN _
   generalize V i=x at *;have HLf:Hid (∀W,Calls prog 96 #[.string x] W fun e w'=>e= .returned (.string (Qw x))∧Below W.heap.size W w'):=fun W=>Qak W x hxs
   have HB:Hid (∀W,Below W0.heap.size W0 W->W.cell? ⟨w.heap.size,1,none⟩=some (.slice (some ⟨cb,co,none⟩) l.length cc)):=fun W hb=>(Lq (hb.block w.heap.size (by omega))).trans c1
   have z0:(0:Int)<=(p:Int):=Lf _;have z1:(p:Int)<(l.length:Int):=by omega
   have z2:(l.length:Int)<=8796093022208:=by omega
   rw[show((0:Nat):Int)=0 from rfl] at hW0 d0 hlk ⊢
   clear hr hm hc hcm hp hv hM hh hi hj hq hr' e hr0 h0 hpe hxs
   go_enter func299,ntmps299
   go_upto_region 1 with (fail)
   try rw[hW0]
   clear hW0 hz
   go_wp2_with (first
    | (go_at_call 300;with_reducible refine hS.mono ?_;rintro e w1 ⟨rfl,hb1⟩;have k1:=HB.out _ hb1;have k2:=HCp.out _ (Qa hb0 hb1))
    | (go_at_call 96;with_reducible refine(HLf.out _).mono ?_;rintro e w2 ⟨rfl,hb2⟩))
   go_ret
   exact⟨rfl,Qa (Qa hb0 hb1) hb2⟩
abbrev wkV(k:Int)(v1:Value)(T2:Nat)(v2:Value):Value := .agg #[.int .i64 k,.iface 133 v1,.iface T2 v2]
abbrev snV(x y:BA)(q:Pq):Value := .agg #[.string x,.string y,.string (pA q),.string (pB' q),.bool q.isSome]
abbrev bkV(h i:Nat):Value := .agg #[.int .i64 h,.int .u64 i]
def S5(w:World)(g:Nat)(x y:BA)(q:Pq):Prop:=w.heap[g]? = some (.cells #[.string x,.string y,.string (pA q),.string (pB' q),.bool q.isSome] 189 (0,0))
section
variable {w W:World} {g:Nat} {x y:BA} {q:Pq}
theorem S5.cells(h:S5 w g x y q):w.cell? ⟨g,0,none⟩=some (.string x)∧w.cell? ⟨g,1,none⟩=some (.string y)∧w.cell? ⟨g,2,none⟩=some (.string (pA q))∧w.cell? ⟨g,3,none⟩=some (.string (pB' q))∧w.cell? ⟨g,4,none⟩=some (.bool q.isSome):=by
 refine⟨?_,?_,?_,?_,?_⟩
 ·rw[cell_of_row w g 0 _ _ (0,0) h];rfl
 ·rw[cell_of_row w g 1 _ _ (0,0) h];rfl
 ·rw[cell_of_row w g 2 _ _ (0,0) h];rfl
 ·rw[cell_of_row w g 3 _ _ (0,0) h];rfl
 ·rw[cell_of_row w g 4 _ _ (0,0) h];rfl
theorem S5.fz(h:S5 w g x y q):∀j,w.frozen? ⟨g,j,none⟩=false:=fun j=>frozen_of_row w g j _ _ h
theorem S5.lt(h:S5 w g x y q):g<w.heap.size:=(Array.getElem?_eq_some_iff.1 h).1
theorem S5.next(h:S5 w g x y q)(hb:Below w.heap.size w W):S5 W g x y q:=(hb.block g h.lt).trans h
theorem Qf7(w:World)(x y:BA)(q:Pq):∃W,w.alloc (.cells #[.string x,.string y,.string (pA q),.string (pB' q),.bool q.isSome] 189)=W∧S5 W w.heap.size x y q∧Below w.heap.size w W∧W.heap.size=w.heap.size+1 :=
 ⟨_,rfl,Lr w _,bal (Lc _ _) _,LK ..⟩
abbrev J9(w:World)(g:Nat)(x y:BA)(q:Pq):World:=((((w.setCell ⟨g,0,none⟩ (.string x)).setCell ⟨g,1,none⟩ (.string y)).setCell ⟨g,2,none⟩ (.string (pA q))).setCell ⟨g,3,none⟩ (.string (pB' q))).setCell ⟨g,4,none⟩ (.bool q.isSome)
theorem S5.put(h:S5 w g x y q)(x' y':BA)(q':Pq):S5 (J9 w g x' y' q') g x' y' q':=Ln _ g 4 _ _ _ (Ln _ g 3 _ _ _ (Ln _ g 2 _ _ _ (Ln _ g 1 _ _ _ (Ln w g 0 _ _ _ h))))
theorem QaV(w:World)(g:Nat)(x y:BA)(q:Pq):ChT (fun b=>b=g) w (J9 w g x y q):=(((((ChT.refl (fun b=>b=g) w).set g 0 _ rfl).set g 1 _ rfl).set g 2 _ rfl).set g 3 _ rfl).set g 4 _ rfl
theorem QR{V:World}{v:Value}{b j:Nat}(x' y':BA)(q':Pq)(h:V.cell? ⟨b,j,none⟩=some v)(hb:b≠g):(J9 V g x' y' q').cell? ⟨b,j,none⟩=some v:=by
 have hc:=QaV V g x' y' q';generalize J9 V g x' y' q'=Z at *;exact(Lq (hc.block b hb)).trans h
end
structure Bw(W:World)(s0:Nat)(k:Int)(v1:Value)(T2:Nat)(v2:Value)(h i:Int):Prop where
 c0:W.cell? ⟨s0,0,none⟩=some (.int .i64 k)
 c1:W.cell? ⟨s0,1,none⟩=some (.iface 133 v1)
 c2:W.cell? ⟨s0,2,none⟩=some (.iface T2 v2)
 d0:W.cell? ⟨s0+1,0,none⟩=some (.int .i64 h)
 d1:W.cell? ⟨s0+1,1,none⟩=some (.int .u64 i)
 s5:S5 W (s0+1+1) ⟨#[]⟩ ⟨#[]⟩ none
theorem Bw.next{W Z:World}{s0:Nat}{k:Int}{v1:Value}{T2:Nat}{v2:Value}{h i:Int}(b:Bw W s0 k v1 T2 v2 h i)(hb:Below W.heap.size W Z):Bw Z s0 k v1 T2 v2 h i:=by
 have l0:s0<W.heap.size:=Ll W _ b.c0;have l1:s0+1<W.heap.size:=Ll W _ b.d0;exact⟨(Lq (hb.block s0 l0)).trans b.c0,(Lq (hb.block s0 l0)).trans b.c1,(Lq (hb.block s0 l0)).trans b.c2,(Lq (hb.block (s0+1) l1)).trans b.d0,(Lq (hb.block (s0+1) l1)).trans b.d1,b.s5.next hb⟩
theorem Bw.ch{W Z:World}{s0 g:Nat}{k:Int}{v1:Value}{T2:Nat}{v2:Value}{h i:Int}(b:Bw W s0 k v1 T2 v2 h i)(hc:ChT (fun b=>b=g) W Z)(hg:s0+1+1<g):Bw Z s0 k v1 T2 v2 h i:=by
 have n0:s0≠g:=by omega
 have n1:s0+1≠g:=by omega
 exact⟨(Lq (hc.block s0 n0)).trans b.c0,(Lq (hc.block s0 n0)).trans b.c1,(Lq (hc.block s0 n0)).trans b.c2,(Lq (hc.block (s0+1) n1)).trans b.d0,(Lq (hc.block (s0+1) n1)).trans b.d1,(hc.block (s0+1+1) (by omega)).trans b.s5⟩
theorem Qa4(w:World)(k:Int)(v1:Value)(T2:Nat)(v2:Value)(h i:Int):∃W,((w.alloc (.cells #[.int .i64 k,.iface 133 v1,.iface T2 v2] 139)).alloc (.cells #[.int .i64 h,.int .u64 i] 131)).alloc (.cells #[.string ⟨#[]⟩,.string ⟨#[]⟩,.string ⟨#[]⟩,.string ⟨#[]⟩,.bool false] 189)=W∧Below w.heap.size w W∧Bw W w.heap.size k v1 T2 v2 h i:=by
 obtain⟨W0,hW0,hb0,⟨c0,c1,c2⟩,⟨d0,d1⟩,hz⟩:=QdS w (.int .i64 k) (.iface 133 v1) (.iface T2 v2) 139 h i;rw[hW0];have hb1:=bal (Lc W0.heap.size W0) (.cells #[.string ⟨#[]⟩,.string ⟨#[]⟩,.string ⟨#[]⟩,.string ⟨#[]⟩,.bool false] 189);have h5:=Lr W0 (.cells #[.string ⟨#[]⟩,.string ⟨#[]⟩,.string ⟨#[]⟩,.string ⟨#[]⟩,.bool false] 189);rw[hz] at h5;exact⟨_,rfl,Qa hb0 hb1,(Lq (hb1.block w.heap.size (by omega))).trans c0,(Lq (hb1.block w.heap.size (by omega))).trans c1,(Lq (hb1.block w.heap.size (by omega))).trans c2,(Lq (hb1.block (w.heap.size+1) (by omega))).trans d0,(Lq (hb1.block (w.heap.size+1) (by omega))).trans d1,h5⟩
theorem QbM(w:World):∃W,w.alloc (.cells #[.string ⟨#[]⟩,.string ⟨#[]⟩,.bool false] 81)=W∧P3 W w.heap.size none∧Below w.heap.size w W :=
 ⟨_,rfl,Lr w _,bal (Lc _ _) _⟩
theorem block_cutP (w:World) (k:Int) (v1 v2:Value) (h i:Nat) (d1 d2:BA) (U:Pq) (hU:un ⟨#[]⟩ ⟨#[]⟩=U)
    (HE1:Hid (∀W,Below w.heap.size w W->Calls prog 297 #[v1,bkV h i] W fun e w'=>e= .returned (ba d1)∧Below W.heap.size W w'))
    (HE2:Hid (∀W,Below w.heap.size w W->Calls prog 299 #[v2,bkV h i] W fun e w'=>e= .returned (ba d2)∧Below W.heap.size W w')) :
    Calls prog 107 #[wkV k v1 135 v2,bkV h i] w fun e w'=>e= .returned (snV d1 d2 U)∧Below w.heap.size w w':=by
  have HD1:Hid (∀W,Below w.heap.size w W->Calls prog 307 #[.string d1,.int .i64 k] W fun e w'=>e= .returned (.string d1)∧Below W.heap.size W w'):=fun W _=>Qca W k d1
  have HD2:Hid (∀W,Below w.heap.size w W->Calls prog 307 #[.string d2,.int .i64 k] W fun e w'=>e= .returned (.string d2)∧Below W.heap.size W w'):=fun W _=>Qca W k d2
  have HT1:Hid (∀W,Calls prog 177 #[ba d1] W fun e w'=>e= .returned (.string ⟨#[]⟩)∧Below W.heap.size W w'):=fun W=>Qhd W d1
  have HT2:Hid (∀W,Calls prog 177 #[ba d2] W fun e w'=>e= .returned (.string ⟨#[]⟩)∧Below W.heap.size W w'):=fun W=>Qhd W d2
  have HU:Hid (∀W,Calls prog 176 #[.string ⟨#[]⟩,.string ⟨#[]⟩] W fun e w'=>e= .returned (pv U)∧Below W.heap.size W w'):=fun W=>J5 W _ _ U hU
  have HO:Hid (∀W,Calls prog 108 #[pv U,.agg #[.string ⟨#[]⟩,.string ⟨#[]⟩,.bool false]] W fun e w'=>e= .returned (pv U)∧Below W.heap.size W w'):=fun W=>QbH W U none U (by cases U <;> rfl)
  obtain⟨W0,hW0,hb0,hB⟩:=Qa4 w k v1 135 v2 (h:Int) (i:Int);have HX:Hid (∀V,Below W0.heap.size W0 V->V.cell? ⟨w.heap.size,1,none⟩=some (.iface 133 v1)∧V.cell? ⟨w.heap.size,2,none⟩=some (.iface 135 v2)∧V.cell? ⟨w.heap.size+1,0,none⟩=some (.int .i64 h)∧V.cell? ⟨w.heap.size+1,1,none⟩=some (.int .u64 i)):=fun V hb=>⟨(hB.next hb).c1,(hB.next hb).c2,(hB.next hb).d0,(hB.next hb).d1⟩
  have HB:=Qc hB;have xc:=(Lc W0.heap.size W0).drew;obtain⟨k1,k2,k3,k4⟩:=HX.out W0 (Lc _ _);clear hB hU
  go_enter func107,ntmps107
  go_upto_region 1 with (fail)
  try rw[hW0]
  clear hW0
  go_region_held3 (fun V=>V.cell? ⟨w.heap.size,1,none⟩=some (.iface 133 v1)∧V.cell? ⟨w.heap.size,2,none⟩=some (.iface 135 v2)∧V.cell? ⟨w.heap.size+1,0,none⟩=some (.int .i64 h)∧V.cell? ⟨w.heap.size+1,1,none⟩=some (.int .u64 i))
    (first|with_reducible exact HX.out _ xc|with_reducible exact HX.out _ (Lc _ _))
    (first
      | (go_at_call 297;with_reducible refine(HE1.out _ (Qa hb0 xc)).mono ?_;rintro e w1 ⟨rfl,hb1⟩;replace xc:=Qa xc hb1;clear hb1)
      | (go_at_call 299;with_reducible refine(HE2.out _ (Qa hb0 xc)).mono ?_;rintro e w1 ⟨rfl,hb1⟩;replace xc:=Qa xc hb1;clear hb1))
  have x5:=HB.out.next xc;have xb:=Qa hb0 xc;clear k1 k2 k3 k4 HX
  go_upto_region 3 with (fail)
  obtain⟨F,hFe,h3,hb3⟩:=QbM w1
  try rw[hFe]
  clear hFe;have x6:=x5.next hb3;have xbF:=Qa xb hb3;have hl9:w.heap.size+1+1<w1.heap.size:=x5.s5.lt;have HB9:Hid (∀V,Below F.heap.size F V->Below w.heap.size w V):=fun V hb=>Qa xbF hb
  have HK9:Hid (∀V,Below F.heap.size F V->V.cell? ⟨w.heap.size,0,none⟩=some (.int .i64 k)∧V.cell? ⟨w1.heap.size,0,none⟩=some (.string (⟨#[]⟩))∧V.cell? ⟨w1.heap.size,1,none⟩=some (.string (⟨#[]⟩))∧V.cell? ⟨w1.heap.size,2,none⟩=some (.bool (false))):=fun V hb=>⟨(x6.next hb).c0,(h3.next hb).cells⟩
  have HQ:Hid (∀V x y q,Below F.heap.size F V->(J9 V (w.heap.size+1+1) x y q).cell? ⟨w.heap.size,0,none⟩=some (.int .i64 k)∧(J9 V (w.heap.size+1+1) x y q).cell? ⟨w1.heap.size,0,none⟩=some (.string (⟨#[]⟩))∧(J9 V (w.heap.size+1+1) x y q).cell? ⟨w1.heap.size,1,none⟩=some (.string (⟨#[]⟩))∧(J9 V (w.heap.size+1+1) x y q).cell? ⟨w1.heap.size,2,none⟩=some (.bool (false))):=fun V x y q hb=>by
    obtain⟨q0,q1,q2,q3⟩:=HK9.out V hb;have n1:w.heap.size≠w.heap.size+1+1:=by omega
    have n2:w1.heap.size≠w.heap.size+1+1:=by omega
    exact⟨QR x y q q0 n1,QR x y q q1 n2,QR x y q q2 n2,QR x y q q3 n2⟩
  have HS9:Hid (∀V,Below F.heap.size F V->S5 V (w.heap.size+1+1) ⟨#[]⟩ ⟨#[]⟩ none):=fun V hb=>(x6.next hb).s5
  obtain⟨e0,e1,e2,e3⟩:=HK9.out F (Lc _ _);have xc9:=(Lc F.heap.size F).drew;clear x5 x6 xb hb3 HE1 HE2 HB h3 xc hl9
  go_upto_region 9 with (fail)
  go_region_held3 (fun V=>V.cell? ⟨w.heap.size,0,none⟩=some (.int .i64 k)∧V.cell? ⟨w1.heap.size,0,none⟩=some (.string (⟨#[]⟩))∧V.cell? ⟨w1.heap.size,1,none⟩=some (.string (⟨#[]⟩))∧V.cell? ⟨w1.heap.size,2,none⟩=some (.bool (false)))
    (first|with_reducible exact HK9.out _ xc9|with_reducible exact HQ9.out|with_reducible exact HK9.out _ (Lc _ _))
    (first
      | (go_at_call 307;first
          | (with_reducible refine(HD1.out _ (HB9.out _ xc9)).mono ?_)
          | (with_reducible refine(HD2.out _ (HB9.out _ xc9)).mono ?_)
         rintro e w2 ⟨rfl,hb1⟩;replace xc9:=Qa xc9 hb1;clear hb1)
      | (go_at_call 177;first
          | (with_reducible refine(HT1.out _).mono ?_)
          | (with_reducible refine(HT2.out _).mono ?_)
         rintro e w2 ⟨rfl,hb1⟩;replace xc9:=Qa xc9 hb1;clear hb1)
      | (go_at_call 176;with_reducible refine(HU.out _).mono ?_;rintro e w2 ⟨rfl,hb1⟩;replace xc9:=Qa xc9 hb1;clear hb1)
      | (go_at_call 108;with_reducible refine(HO.out _).mono ?_;rintro e w9 ⟨rfl,hb1⟩;replace xc9:=Qa xc9 hb1;clear hb1
         have s9:=HS9.out _ xc9;obtain⟨a0,a1,a2,a3,a4⟩:=s9.cells;have fz:=s9.fz;have HQ9:=Qc (HQ.out w9 d1 d2 U xc9)))
  have hp:=s9.put d1 d2 U;have hch:=QaV w9 (w.heap.size+1+1) d1 d2 U;obtain⟨b0,b1,b2,b3,b4⟩:=hp.cells;go_wp2;refine LA (v:=snV d1 d2 U) (by simp[results,results107,go_sem,b0,b1,b2,b3,b4]) rfl ⟨rfl,?_⟩
  exact(HB9.out _ xc9).trans (hch.below (by rintro b rfl;omega))
theorem block_leafP (w:World) (k:Int) (v1 v2:Value) (h i:Nat) (ht:Tb w) (t1 t2:BA) (hs1:t1.size<4611686018427387904) (hs2:t2.size<4611686018427387904) (r1 r2:BA) (hr1:dg (clk k) t1=r1) (hr2:dg (clk k) t2=r2) (U:Pq) (hU:un t1 t2=U)
    (HE1:Hid (∀W,Below w.heap.size w W->Calls prog 297 #[v1,bkV h i] W fun e w'=>e= .returned (wo t1)∧Below W.heap.size W w'))
    (HE2:Hid (∀W,Below w.heap.size w W->Calls prog 299 #[v2,bkV h i] W fun e w'=>e= .returned (wo t2)∧Below W.heap.size W w')) :
    Calls prog 107 #[wkV k v1 135 v2,bkV h i] w fun e w'=>e= .returned (snV r1 r2 U)∧Below w.heap.size w w':=by
  have HD1:Hid (∀W,Below w.heap.size w W->Calls prog 305 #[.string t1,.int .i64 k] W fun e w'=>e= .returned (.string r1)∧Below W.heap.size W w'):=fun W hb=>J7 W (ht.next hb) k t1 hs1 r1 hr1
  have HD2:Hid (∀W,Below w.heap.size w W->Calls prog 305 #[.string t2,.int .i64 k] W fun e w'=>e= .returned (.string r2)∧Below W.heap.size W w'):=fun W hb=>J7 W (ht.next hb) k t2 hs2 r2 hr2
  have HT1:Hid (∀W,Calls prog 177 #[wo t1] W fun e w'=>e= .returned (.string t1)∧Below W.heap.size W w'):=fun W=>QaX W t1
  have HT2:Hid (∀W,Calls prog 177 #[wo t2] W fun e w'=>e= .returned (.string t2)∧Below W.heap.size W w'):=fun W=>QaX W t2
  have HU:Hid (∀W,Calls prog 176 #[.string t1,.string t2] W fun e w'=>e= .returned (pv U)∧Below W.heap.size W w'):=fun W=>J5 W _ _ U hU
  have HO:Hid (∀W,Calls prog 108 #[pv U,.agg #[.string ⟨#[]⟩,.string ⟨#[]⟩,.bool false]] W fun e w'=>e= .returned (pv U)∧Below W.heap.size W w'):=fun W=>QbH W U none U (by cases U <;> rfl)
  obtain⟨W0,hW0,hb0,hB⟩:=Qa4 w k v1 135 v2 (h:Int) (i:Int);have HX:Hid (∀V,Below W0.heap.size W0 V->V.cell? ⟨w.heap.size,1,none⟩=some (.iface 133 v1)∧V.cell? ⟨w.heap.size,2,none⟩=some (.iface 135 v2)∧V.cell? ⟨w.heap.size+1,0,none⟩=some (.int .i64 h)∧V.cell? ⟨w.heap.size+1,1,none⟩=some (.int .u64 i)):=fun V hb=>⟨(hB.next hb).c1,(hB.next hb).c2,(hB.next hb).d0,(hB.next hb).d1⟩
  have HB:=Qc hB;have xc:=(Lc W0.heap.size W0).drew;obtain⟨k1,k2,k3,k4⟩:=HX.out W0 (Lc _ _);clear hB ht hs1 hs2 hr1 hr2 hU
  go_enter func107,ntmps107
  go_upto_region 1 with (fail)
  try rw[hW0]
  clear hW0
  go_region_held3 (fun V=>V.cell? ⟨w.heap.size,1,none⟩=some (.iface 133 v1)∧V.cell? ⟨w.heap.size,2,none⟩=some (.iface 135 v2)∧V.cell? ⟨w.heap.size+1,0,none⟩=some (.int .i64 h)∧V.cell? ⟨w.heap.size+1,1,none⟩=some (.int .u64 i))
    (first|with_reducible exact HX.out _ xc|with_reducible exact HX.out _ (Lc _ _))
    (first
      | (go_at_call 297;with_reducible refine(HE1.out _ (Qa hb0 xc)).mono ?_;rintro e w1 ⟨rfl,hb1⟩;replace xc:=Qa xc hb1;clear hb1)
      | (go_at_call 299;with_reducible refine(HE2.out _ (Qa hb0 xc)).mono ?_;rintro e w1 ⟨rfl,hb1⟩;replace xc:=Qa xc hb1;clear hb1))
  have x5:=HB.out.next xc;have xb:=Qa hb0 xc;clear k1 k2 k3 k4 HX
  go_upto_region 3 with (fail)
  obtain⟨F,hFe,h3,hb3⟩:=QbM w1
  try rw[hFe]
  clear hFe;have x6:=x5.next hb3;have xbF:=Qa xb hb3;have hl9:w.heap.size+1+1<w1.heap.size:=x5.s5.lt;have HB9:Hid (∀V,Below F.heap.size F V->Below w.heap.size w V):=fun V hb=>Qa xbF hb
  have HK9:Hid (∀V,Below F.heap.size F V->V.cell? ⟨w.heap.size,0,none⟩=some (.int .i64 k)∧V.cell? ⟨w1.heap.size,0,none⟩=some (.string (⟨#[]⟩))∧V.cell? ⟨w1.heap.size,1,none⟩=some (.string (⟨#[]⟩))∧V.cell? ⟨w1.heap.size,2,none⟩=some (.bool (false))):=fun V hb=>⟨(x6.next hb).c0,(h3.next hb).cells⟩
  have HQ:Hid (∀V x y q,Below F.heap.size F V->(J9 V (w.heap.size+1+1) x y q).cell? ⟨w.heap.size,0,none⟩=some (.int .i64 k)∧(J9 V (w.heap.size+1+1) x y q).cell? ⟨w1.heap.size,0,none⟩=some (.string (⟨#[]⟩))∧(J9 V (w.heap.size+1+1) x y q).cell? ⟨w1.heap.size,1,none⟩=some (.string (⟨#[]⟩))∧(J9 V (w.heap.size+1+1) x y q).cell? ⟨w1.heap.size,2,none⟩=some (.bool (false))):=fun V x y q hb=>by
    obtain⟨q0,q1,q2,q3⟩:=HK9.out V hb;have n1:w.heap.size≠w.heap.size+1+1:=by omega
    have n2:w1.heap.size≠w.heap.size+1+1:=by omega
    exact⟨QR x y q q0 n1,QR x y q q1 n2,QR x y q q2 n2,QR x y q q3 n2⟩
  have HS9:Hid (∀V,Below F.heap.size F V->S5 V (w.heap.size+1+1) ⟨#[]⟩ ⟨#[]⟩ none):=fun V hb=>(x6.next hb).s5
  obtain⟨e0,e1,e2,e3⟩:=HK9.out F (Lc _ _);have xc9:=(Lc F.heap.size F).drew;clear x5 x6 xb hb3 HE1 HE2 HB h3 xc hl9
  go_upto_region 9 with (fail)
  go_region_held3 (fun V=>V.cell? ⟨w.heap.size,0,none⟩=some (.int .i64 k)∧V.cell? ⟨w1.heap.size,0,none⟩=some (.string (⟨#[]⟩))∧V.cell? ⟨w1.heap.size,1,none⟩=some (.string (⟨#[]⟩))∧V.cell? ⟨w1.heap.size,2,none⟩=some (.bool (false)))
    (first|with_reducible exact HK9.out _ xc9|with_reducible exact HQ9.out|with_reducible exact HK9.out _ (Lc _ _))
    (first
      | (go_at_call 305;first
          | (with_reducible refine(HD1.out _ (HB9.out _ xc9)).mono ?_)
          | (with_reducible refine(HD2.out _ (HB9.out _ xc9)).mono ?_)
         rintro e w2 ⟨rfl,hb1⟩;replace xc9:=Qa xc9 hb1;clear hb1)
      | (go_at_call 177;first
          | (with_reducible refine(HT1.out _).mono ?_)
          | (with_reducible refine(HT2.out _).mono ?_)
         rintro e w2 ⟨rfl,hb1⟩;replace xc9:=Qa xc9 hb1;clear hb1)
      | (go_at_call 176;with_reducible refine(HU.out _).mono ?_;rintro e w2 ⟨rfl,hb1⟩;replace xc9:=Qa xc9 hb1;clear hb1)
      | (go_at_call 108;with_reducible refine(HO.out _).mono ?_;rintro e w9 ⟨rfl,hb1⟩;replace xc9:=Qa xc9 hb1;clear hb1
         have s9:=HS9.out _ xc9;obtain⟨a0,a1,a2,a3,a4⟩:=s9.cells;have fz:=s9.fz;have HQ9:=Qc (HQ.out w9 r1 r2 U xc9)))
  have hp:=s9.put r1 r2 U;have hch:=QaV w9 (w.heap.size+1+1) r1 r2 U;obtain⟨b0,b1,b2,b3,b4⟩:=hp.cells;go_wp2;refine LA (v:=snV r1 r2 U) (by simp[results,results107,go_sem,b0,b1,b2,b3,b4]) rfl ⟨rfl,?_⟩
  exact(HB9.out _ xc9).trans (hch.below (by rintro b rfl;omega))
theorem block_nodeP (w:World) (k:Int) (v1 v2:Value) (g h i j m:Nat) (hg:g=h+1) (hh:g<=40) (hj:j=2*i) (hm:m=j+1) (hi:i<1099511627776) (ht:Tb w)
    (x1 y1 x2 y2:BA) (q1 q2:Pq) (hs:x1.size<=32∧y1.size<=32∧x2.size<=32∧y2.size<=32) (t1 t2:BA) (ht1:Qz x1 x2=t1) (ht2:Qz y1 y2=t2) (r1 r2:BA) (hr1:dg (clk k) t1=r1) (hr2:dg (clk k) t2=r2) (U Y Z:Pq) (hU:un t1 t2=U) (hY:q1.or q2=Y) (hZ:U.or Y=Z)
    (HE1:Hid (∀W,Below w.heap.size w W->Calls prog 297 #[v1,bkV g i] W fun e w'=>e= .returned .nilIface∧Below W.heap.size W w'))
    (HE2:Hid (∀W,Below w.heap.size w W->Calls prog 299 #[v2,bkV g i] W fun e w'=>e= .returned .nilIface∧Below W.heap.size W w'))
    (HL1:Hid (∀W,Below w.heap.size w W->Calls prog 107 #[wkV k v1 135 v2,bkV h j] W fun e w'=>e= .returned (snV x1 y1 q1)∧Below W.heap.size W w'))
    (HL2:Hid (∀W,Below w.heap.size w W->Calls prog 107 #[wkV k v1 135 v2,bkV h m] W fun e w'=>e= .returned (snV x2 y2 q2)∧Below W.heap.size W w')) :
    Calls prog 107 #[wkV k v1 135 v2,bkV g i] w fun e w'=>e= .returned (snV r1 r2 Z)∧Below w.heap.size w w':=by
  have hs1:t1.size<4611686018427387904:=by rw[<-ht1,YO];omega
  have hs2:t2.size<4611686018427387904:=by rw[<-ht2,YO];omega
  have HD1:Hid (∀W,Below w.heap.size w W->Calls prog 305 #[.string t1,.int .i64 k] W fun e w'=>e= .returned (.string r1)∧Below W.heap.size W w'):=fun W hb=>J7 W (ht.next hb) k t1 hs1 r1 hr1
  have HD2:Hid (∀W,Below w.heap.size w W->Calls prog 305 #[.string t2,.int .i64 k] W fun e w'=>e= .returned (.string r2)∧Below W.heap.size W w'):=fun W hb=>J7 W (ht.next hb) k t2 hs2 r2 hr2
  have HT1:Hid (∀W,Calls prog 177 #[wo t1] W fun e w'=>e= .returned (.string t1)∧Below W.heap.size W w'):=fun W=>QaX W t1
  have HT2:Hid (∀W,Calls prog 177 #[wo t2] W fun e w'=>e= .returned (.string t2)∧Below W.heap.size W w'):=fun W=>QaX W t2
  have HU:Hid (∀W,Calls prog 176 #[.string t1,.string t2] W fun e w'=>e= .returned (pv U)∧Below W.heap.size W w'):=fun W=>J5 W _ _ U hU
  have HO:Hid (∀W,Calls prog 108 #[pv U,pv Y] W fun e w'=>e= .returned (pv Z)∧Below W.heap.size W w'):=fun W=>QbH W U Y Z hZ
  have HN1:Hid (∀W,Calls prog 175 #[.string x1,.string x2] W fun e w'=>e= .returned (.string t1)∧Below W.heap.size W w'):=fun W=>by have:=Qal W x1 x2 (by omega) (by omega);rwa [ht1] at this
  have HN2:Hid (∀W,Calls prog 175 #[.string y1,.string y2] W fun e w'=>e= .returned (.string t2)∧Below W.heap.size W w'):=fun W=>by have:=Qal W y1 y2 (by omega) (by omega);rwa [ht2] at this
  have HOY:Hid (∀W,Calls prog 108 #[pv q1,pv q2] W fun e w'=>e= .returned (pv Y)∧Below W.heap.size W w'):=fun W=>QbH W q1 q2 Y hY
  obtain⟨W0,hW0,hb0,hB⟩:=Qa4 w k v1 135 v2 (g:Int) (i:Int);have HX:Hid (∀V,Below W0.heap.size W0 V->V.cell? ⟨w.heap.size,1,none⟩=some (.iface 133 v1)∧V.cell? ⟨w.heap.size,2,none⟩=some (.iface 135 v2)∧V.cell? ⟨w.heap.size+1,0,none⟩=some (.int .i64 g)∧V.cell? ⟨w.heap.size+1,1,none⟩=some (.int .u64 i)):=fun V hb=>⟨(hB.next hb).c1,(hB.next hb).c2,(hB.next hb).d0,(hB.next hb).d1⟩
  have HB:=Qc hB;have xc:=(Lc W0.heap.size W0).drew;obtain⟨k1,k2,k3,k4⟩:=HX.out W0 (Lc _ _);have u1:(g:Int)-1=(h:Int):=by omega
  have u2:2*(i:Int)=(j:Int):=by omega
  have u3:(j:Int)+1=(m:Int):=by omega
  have u4:(j:Int)<=2199023255552:=by omega
  have u5:(g:Int)<=40:=by omega
  have HU9:=Qc (Lx u1 (Lx u2 (Lx u3 (Lx u4 u5))));clear hB ht hs1 hs2 hr1 hr2 hU hY hZ ht1 ht2 hs hg hh hj hi hm u1 u2 u3 u4 u5
  go_enter func107,ntmps107
  go_upto_region 1 with (fail)
  try rw[hW0]
  clear hW0
  go_region_held3 (fun V=>V.cell? ⟨w.heap.size,1,none⟩=some (.iface 133 v1)∧V.cell? ⟨w.heap.size,2,none⟩=some (.iface 135 v2)∧V.cell? ⟨w.heap.size+1,0,none⟩=some (.int .i64 g)∧V.cell? ⟨w.heap.size+1,1,none⟩=some (.int .u64 i))
    (first|with_reducible exact HX.out _ xc|with_reducible exact HX.out _ (Lc _ _))
    (first
      | (go_at_call 297;with_reducible refine(HE1.out _ (Qa hb0 xc)).mono ?_;rintro e w1 ⟨rfl,hb1⟩;replace xc:=Qa xc hb1;clear hb1)
      | (go_at_call 299;with_reducible refine(HE2.out _ (Qa hb0 xc)).mono ?_;rintro e w1 ⟨rfl,hb1⟩;replace xc:=Qa xc hb1;clear hb1))
  have x5:=HB.out.next xc;have xb:=Qa hb0 xc;clear k1 k2 k3 k4 HX
  go_upto_region 3 with (fail)
  obtain⟨F,hFe,h3,hb3⟩:=QbM w1
  try rw[hFe]
  clear hFe;have x6:=x5.next hb3;have xbF:=Qa xb hb3;have hl9:w.heap.size+1+1<w1.heap.size:=x5.s5.lt;have ⟨c0,c1,c2,d0,d1,_⟩:=x6;obtain⟨u1,u2,u3,u4,u5⟩:=HU9.out;clear x5 xb hb3 HE1 HE2 HB xc;have H3:=Qc h3;have H6:=Qc x6;clear h3 x6
  go_upto_region 5 with (go_at_call 107;with_reducible refine(HL1.out _ xbF).mono ?_;rintro e w2 ⟨rfl,hb2⟩)
  obtain⟨F2,hFe,s51,hb4,hsz2⟩:=Qf7 w2 x1 y1 q1
  try rw[hFe]
  clear hFe;have y6:=H6.out.next (Qa hb2 hb4);have ⟨c0',c1',c2',d0',d1',_⟩:=y6;have xb2:=Qa xbF (Qa hb2 hb4);have hz2:w1.heap.size<w2.heap.size:=(H3.out.next hb2).lt;clear c0 c1 c2 d0 d1 y6
  go_upto_region 6 with (go_at_call 107;with_reducible refine(HL2.out _ xb2).mono ?_;rintro e w3 ⟨rfl,hb5⟩)
  obtain⟨F3,hFe,s52,hb6,hsz3⟩:=Qf7 w3 x2 y2 q2
  try rw[hFe]
  clear hFe;have s53:=s51.next (Qa hb5 hb6);obtain⟨a0,a1,a2,a3,a4⟩:=s53.cells;obtain⟨b0,b1,b2,b3,b4⟩:=s52.cells;have xb3:=Qa xb2 (Qa hb5 hb6);have HA:Hid (∀V,Below F3.heap.size F3 V->Bw V w.heap.size k v1 135 v2 (g:Int) (i:Int)∧P3 V w1.heap.size none∧S5 V w2.heap.size x1 y1 q1∧S5 V w3.heap.size x2 y2 q2):=fun V hb=>⟨H6.out.next (Qa (Qa (Qa (Qa hb2 hb4) hb5) hb6) hb),H3.out.next (Qa (Qa (Qa (Qa hb2 hb4) hb5) hb6) hb),s53.next hb,s52.next hb⟩
  clear c0' c1' c2' d0' d1' hb2 hb4 hb5 hb6 xb2 s51 s52 s53 hsz2 hsz3 u1 u2 u3 u4 u5 HU9 HL1 HL2 H3 H6;have xcA:=Lc F3.heap.size F3
  go_upto_region 7 with (go_at_call 175;with_reducible refine(HN1.out _).mono ?_;rintro e w4 ⟨rfl,hb7⟩)
  replace xcA:=Qa xcA hb7;have ⟨_,_,z51,z52⟩:=HA.out _ xcA;obtain⟨a0,a1,a2,a3,a4⟩:=z51.cells;obtain⟨b0,b1,b2,b3,b4⟩:=z52.cells
  go_upto_region 8 with (go_at_call 175;with_reducible refine(HN2.out _).mono ?_;rintro e w5 ⟨rfl,hb8⟩)
  replace xcA:=Qa xcA hb8;have ⟨_,_,z51',z52'⟩:=HA.out _ xcA;obtain⟨a0,a1,a2,a3,a4⟩:=z51'.cells;obtain⟨b0,b1,b2,b3,b4⟩:=z52'.cells;clear z51 z52 z51' z52' hb7 hb8
  go_upto_region 9 with (go_at_call 108;with_reducible refine(HOY.out _).mono ?_;rintro e w6 ⟨rfl,hb9⟩;replace xcA:=Qa xcA hb9;obtain⟨y6,h3,_,_⟩:=HA.out _ xcA;obtain⟨g0,g1,g2⟩:=h3.cells;have gf:=h3.fz)
  obtain⟨F,hFe⟩:∃F,putP w6 w1.heap.size Y=F:=⟨_,rfl⟩;have hp3:=h3.put Y;have hch3:=JV w6 w1.heap.size Y;rw[hFe] at hp3 hch3;unfold putP at hFe
  try rw[hFe]
  clear hFe;have x6:Bw F w.heap.size k v1 135 v2 (g:Int) (i:Int):=y6.ch hch3 hl9;have xbF:Below w.heap.size w F:=(Qa xb3 xcA).trans (hch3.below (by rintro b rfl;omega))
  clear h3 g0 g1 g2 gf y6 hch3 xcA xb3 hb9;have h3:=hp3;clear hp3;have HB9:Hid (∀V,Below F.heap.size F V->Below w.heap.size w V):=fun V hb=>Qa xbF hb
  have HK9:Hid (∀V,Below F.heap.size F V->V.cell? ⟨w.heap.size,0,none⟩=some (.int .i64 k)∧V.cell? ⟨w1.heap.size,0,none⟩=some (.string (pA Y))∧V.cell? ⟨w1.heap.size,1,none⟩=some (.string (pB' Y))∧V.cell? ⟨w1.heap.size,2,none⟩=some (.bool (Option.isSome Y))):=fun V hb=>⟨(x6.next hb).c0,(h3.next hb).cells⟩
  have HQ:Hid (∀V x y q,Below F.heap.size F V->(J9 V (w.heap.size+1+1) x y q).cell? ⟨w.heap.size,0,none⟩=some (.int .i64 k)∧(J9 V (w.heap.size+1+1) x y q).cell? ⟨w1.heap.size,0,none⟩=some (.string (pA Y))∧(J9 V (w.heap.size+1+1) x y q).cell? ⟨w1.heap.size,1,none⟩=some (.string (pB' Y))∧(J9 V (w.heap.size+1+1) x y q).cell? ⟨w1.heap.size,2,none⟩=some (.bool (Option.isSome Y))):=fun V x y q hb=>by
    obtain⟨q0,q1,q2,q3⟩:=HK9.out V hb;have n1:w.heap.size≠w.heap.size+1+1:=by omega
    have n2:w1.heap.size≠w.heap.size+1+1:=by omega
    exact⟨QR x y q q0 n1,QR x y q q1 n2,QR x y q q2 n2,QR x y q q3 n2⟩
  have HS9:Hid (∀V,Below F.heap.size F V->S5 V (w.heap.size+1+1) ⟨#[]⟩ ⟨#[]⟩ none):=fun V hb=>(x6.next hb).s5
  obtain⟨e0,e1,e2,e3⟩:=HK9.out F (Lc _ _);have xc9:=(Lc F.heap.size F).drew;clear x6 h3 hl9
  go_region_held3 (fun V=>V.cell? ⟨w.heap.size,0,none⟩=some (.int .i64 k)∧V.cell? ⟨w1.heap.size,0,none⟩=some (.string (pA Y))∧V.cell? ⟨w1.heap.size,1,none⟩=some (.string (pB' Y))∧V.cell? ⟨w1.heap.size,2,none⟩=some (.bool (Option.isSome Y)))
    (first|with_reducible exact HK9.out _ xc9|with_reducible exact HQ9.out|with_reducible exact HK9.out _ (Lc _ _))
    (first
      | (go_at_call 305;first
          | (with_reducible refine(HD1.out _ (HB9.out _ xc9)).mono ?_)
          | (with_reducible refine(HD2.out _ (HB9.out _ xc9)).mono ?_)
         rintro e w2 ⟨rfl,hb1⟩;replace xc9:=Qa xc9 hb1;clear hb1)
      | (go_at_call 177;first
          | (with_reducible refine(HT1.out _).mono ?_)
          | (with_reducible refine(HT2.out _).mono ?_)
         rintro e w2 ⟨rfl,hb1⟩;replace xc9:=Qa xc9 hb1;clear hb1)
      | (go_at_call 176;with_reducible refine(HU.out _).mono ?_;rintro e w2 ⟨rfl,hb1⟩;replace xc9:=Qa xc9 hb1;clear hb1)
      | (go_at_call 108;with_reducible refine(HO.out _).mono ?_;rintro e w9 ⟨rfl,hb1⟩;replace xc9:=Qa xc9 hb1;clear hb1
         have s9:=HS9.out _ xc9;obtain⟨a0,a1,a2,a3,a4⟩:=s9.cells;have fz:=s9.fz;have HQ9:=Qc (HQ.out w9 r1 r2 Z xc9)))
  have hp:=s9.put r1 r2 Z;have hch:=QaV w9 (w.heap.size+1+1) r1 r2 Z;obtain⟨b0,b1,b2,b3,b4⟩:=hp.cells;go_wp2;refine LA (v:=snV r1 r2 Z) (by simp[results,results107,go_sem,b0,b1,b2,b3,b4]) rfl ⟨rfl,?_⟩
  exact(HB9.out _ xc9).trans (hch.below (by rintro b rfl;omega))
theorem Qe0(w:World){ops:Array Oper}{o:Oper}{a:Act}{K:Act->World->Prop}{Q:Exit->Act->World->Prop}{E:Prop}(hgd:o.guard=none)
  (s x:Operand) (hop:o.op=Op.call { callee:=Callee.builtin Builtin.append,args:=#[s,x],argTypes:=#[22,22] })
  (B:Nat) (v:Value) (P:LB) (hs:a.eval s=v) (hown:Qg w B v P) (g:Nat) (d:BA) (hx:a.eval x= .slice (Zp g) 1 1) (hc:w.cell? ⟨g,0,none⟩=some (.string d)) (hl:P.length<=1000) (hB:B<=w.heap.size)
  (hK:∀v' w',Qg w' B v' (P++[d])->w.grownBy w' v.ownBlock->(v'.ownBlock=v.ownBlock ∨ ∀b,v'.ownBlock=some b->w.heap.size<=b)->K (a.put o.dst v') w'):if Region.wanted o (yielded ops a.tmps)=true then Oper.wp prog o a w K Q else E:=by
 have hw:Region.wanted o (yielded ops a.tmps)=true:=by simp[Region.wanted,hgd]
 rw[Lo hw];obtain⟨i0,hi,hz0,hz1,hz2⟩:=info_parts Tryz.infoS;have hcells:∀j c,[Value.string d][j]? = some c->w.cell? ((⟨g,0,none⟩:Addr).add j)=some c:=fun j c hj=>by
  match j,hj with
  | 0,hj=>simp at hj;subst hj;simpa [Addr.add] using hc
 have h1c:∀u∈[Value.string d],u.oneCell'=true:=by intro u hu;simp at hu;subst hu;rfl
 have key:∃v' w',(Builtin.append_ #[22,22] o.type #[v,.slice (Zp g) 1 1]).run prog w= .ok v' w'∧w'.ownsRow B 9 1 v' (P.length+1) (P.map Value.string++[.string d])∧w.grownBy w' v.ownBlock∧(v'.ownBlock=v.ownBlock ∨ ∀b,v'.ownBlock=some b->w.heap.size<=b):=by
  have hown0:=hown;obtain⟨g1,g2⟩:=hown
  rcases g2 with ⟨rfl,h0⟩|⟨q,cp,cur,rfl,hgb,hh,hc'⟩
  ·have hP:P=[]:=List.length_eq_zero_iff.1 h0;subst hP;obtain⟨v',w',hrun,r1,r2,_⟩:=run_append_own (P:=prog) w w.heap.size 22 o.type 9 i0 (.string ByteArray.empty) 1 16 underlying22 hi hz0 hz1 hz2 rfl (by decide) _ 0 [] (Nj _ _ _ _) ⟨g,0,none⟩ 1 1 [.string d] rfl hcells h1c (by unfold maxLen;omega) (by omega) (Lb _)
   exact⟨v',w',hrun,r1.mono hB,r2,.inr fun k hk=>(r1.lt k hk).1⟩
  ·by_cases hfit:P.length+1<=cp
   ·obtain⟨w',hrun,r1,r2⟩:=run_append_fits (P:=prog) w B 22 o.type 9 i0 1 underlying22 hi hz1 q P.length cp _ hown0 ⟨g,0,none⟩ 1 1 [.string d] rfl hcells h1c hfit;exact⟨_,w',hrun,r1,r2,.inl rfl⟩
   ·obtain⟨v',w',hrun,r1,r2⟩:=run_append_arg_grows (P:=prog) w 22 o.type 9 i0 (.string ByteArray.empty) 1 16 underlying22 hi hz0 hz1 hz2 rfl (by decide) ⟨q,0,none⟩ P.length cp _ g1 (hown0.cells rfl) ⟨g,0,none⟩ 1 1 [.string d] rfl hcells (by omega) (by unfold maxLen;omega) (by omega)
    exact⟨v',w',hrun,r1.mono hB,⟨r2.os,r2.tape,r2.output,r2.size,fun k hk _=>r2.block k hk (by simp)⟩,.inr fun k hk=>(r1.lt k hk).1⟩
 obtain⟨v',w',hrun,r1,r2,r3⟩:=key;unfold Oper.wp;simp[execOp,hop,resolve,invoke,builtin,hs,hx,hrun,Result.andThen];refine hK v' w' ?_ r2 r3
 rw[Qg,Nd,Lh];exact r1
def Apt(v u:Value):Prop := ∀g,v.ownBlock=some g->u.ownBlock=some g->False
structure Pr(B:Nat)(wr:World)(v u:Value)(P Q:LB):Prop where
 ov:Qg wr B v P
 ou:Qg wr B u Q
 ap:Apt v u
section
variable {B:Nat} {w w':World} {v u v':Value} {P Q P':LB}
theorem Pr.next(h:Pr B w v u P Q)(hb:Below w.heap.size w w'):Pr B w' v u P Q:=⟨Qv h.ov hb (Lb _),Qv h.ou hb (Lb _),h.ap⟩
theorem Pr.swap(h:Pr B w v u P Q):Pr B w u v Q P:=⟨h.ou,h.ov,fun g h1 h2=>h.ap g h2 h1⟩
theorem Pr.app(h:Pr B w v u P Q)(o:Qg w' B v' P')(g:w.grownBy w' v.ownBlock)(f:v'.ownBlock=v.ownBlock ∨ ∀b,v'.ownBlock=some b->w.heap.size<=b):Pr B w' v' u P' Q:=by
 refine⟨o,Qr h.ou fun b hb _=>g.block b (LX h.ou b hb).2 fun e=>h.ap b e.symm hb,fun b h1 h2=> ?_⟩
 rcases f with f|f
 ·exact h.ap b (f.symm.trans h1) h2
 ·have:=f b h1;have:=(LX h.ou b h2).2;omega
theorem QoW(B:Nat)(w:World):Pr B w (.slice none 0 0) (.slice none 0 0) [] []:=⟨Nj _ _ _ _,Nj _ _ _ _,fun g h _=>by cases h⟩
end
end Go.Proofs.YtoblgjledefdbabGreatDoor
