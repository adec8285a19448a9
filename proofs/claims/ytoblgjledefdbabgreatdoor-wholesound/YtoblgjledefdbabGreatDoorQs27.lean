/- Own work. -/
import Derived.Test.YtoblgjledefdbabGreatDoorQs25
import Derived.Test.YtoblgjledefdbabGreatDoorQs26
set_option maxRecDepth 100000
set_option maxHeartbeats 1000000
namespace Go.Proofs.YtoblgjledefdbabGreatDoor
open Go.RowKit
attribute [local go_sem ↓] Go.wp_at_zero Go.wp_at_succ
open Go.Proofs.Tryz
structure RdF(w:World)(sa:OA)(sb sc:Nat)(da:OA)(db dc:Nat)(P:PV):Prop where
 p:RdPC w sa sb 0 sc da db 0 dc P
 cS:P.S.length<=sc
 nS:sa=none->sc=0
 nD:da=none->dc=0
 mC:dc<=9223372036854775807
theorem RdF.next{w W:World}{sa:OA}{sb sc:Nat}{da:OA}{db dc:Nat}{P:PV}(h:RdF w sa sb sc da db dc P)(hb:Below w.heap.size w W):RdF W sa sb sc da db dc P:=⟨h.p.next hb,h.cS,h.nS,h.nD,h.mC⟩
theorem Qg0{w:World}{B T s n c m:Nat}{ao:OA}{xs:List Value}(h:w.ownsRow B T s (.slice ao n c) m xs):n=m∧n<=c∧c<=9223372036854775807:=by
 rcases h.2 with ⟨h1,h0⟩|⟨g,cap,cur,h1,hg,hh,hc1,hc2,_⟩
 ·injection h1 with _ h2 h3
  subst h2 h3;exact⟨h0.symm,Lb _,Lm _⟩
 ·injection h1 with _ h2 h3
  subst h2 h3;exact⟨rfl,hc1,hc2⟩
theorem Qg1{w:World}{B:Nat}{sv dv:Value}{P:PV}(h:Well P)(o1:Cv.Own w B sv P.S)(o2:Qg w B dv P.D):∃sa sb sc da db dc,sv= .slice sa P.S.length sc∧dv= .slice da P.D.length dc∧RdF w sa sb sc da db dc P:=by
 have ho:=Yy h.1;have i1:=ho.hold;have i2:=ho.hsz;have i3:=ho.len;have i4:=ho.hc;have i5:=ho.k32;obtain⟨sa,sb,sc,rfl,r1,n1⟩:=QeK o1;obtain⟨da,db,dc,rfl,r2,r3,n2⟩:=QJ o2 (fun d hd=>by have:=h.2 d hd;omega)
 exact⟨sa,sb,sc,da,db,dc,rfl,rfl,⟨r1,r2,by omega,by omega,by omega,by omega,r3⟩,(Qg0 o1).2.1,n1,n2,(Qg0 o2).2.2⟩
theorem Ju(w:World)(s:BA)(hs:s.size<=281474976710656)(P:PV)(h:dec s.data.toList=some P) :
  Calls prog 28 #[.string s] w fun e w'=> ∃sa sb sc da db dc,e= .returned (.tuple #[.agg #[.int .i64 P.kd,.int .i64 P.k,.int .u64 P.old,.int .u64 P.size,.slice sa P.S.length sc,.slice da P.D.length dc],.int .i64 0])∧RdF w' sa sb sc da db dc P∧(Cv.Own w' w.heap.size (.slice sa P.S.length sc) P.S∧Qg w' w.heap.size (.slice da P.D.length dc) P.D)∧Below w.heap.size w w':=by
 refine(Qbg w s hs).mono ?_
 rintro e w' (⟨P',sv,dv,h1,rfl,h3,h4,h5⟩|⟨h1,_⟩)
 ·rw[h] at h1;cases h1;obtain⟨sa,sb,sc,da,db,dc,rfl,rfl,r⟩:=Qg1 (Qc1 h).1 h3 h4;exact⟨sa,sb,sc,da,db,dc,rfl,r,⟨h3,h4⟩,h5⟩
 ·rw[h] at h1;cases h1
def tkE(k:Int)(s:BA):Int:=if k<1∨32<k then 70 else match dec s.data.toList with|none=>140|some P=>if P.k=k then 0 else 150
theorem Qip{k e0:Int}{s:BA}(h:tkE k s=e0)(h0:e0≠0):(chk k=70∧e0=70)∨(chk k=0∧dec s.data.toList=none∧e0=140)∨(chk k=0 ∧ ∃P,dec s.data.toList=some P∧P.k≠k∧e0=150):=by
 unfold tkE at h
 by_cases hk:k<1∨32<k
 ·rw[Lo hk] at h;exact .inl ⟨by rw[chk,Lo hk],h.symm⟩
 ·rw[Le hk] at h;have hc:chk k=0:=by rw[chk,Le hk]
  cases hd:dec s.data.toList with
  | none=>rw[hd] at h;exact .inr (.inl ⟨hc,rfl,h.symm⟩)
  | some P=>
   rw[hd] at h
   by_cases hp:P.k=k
   ·simp only[if_pos hp] at h;exact absurd h.symm h0
   ·simp only[if_neg hp] at h;exact .inr (.inr ⟨hc,P,rfl,hp,h.symm⟩)
theorem QkV{k:Int}{s:BA}(h:tkE k s=0):(1<=k∧k<=32) ∧ ∃P,dec s.data.toList=some P∧P.k=k:=by
 unfold tkE at h
 by_cases hk:k<1∨32<k
 ·rw[Lo hk] at h;cases h
 ·rw[Le hk] at h
  cases hd:dec s.data.toList with
  | none=>rw[hd] at h;cases h
  | some P=>
   rw[hd] at h
   by_cases hp:P.k=k
   ·exact⟨by omega,P,rfl,hp⟩
   ·simp only[if_neg hp] at h;cases h
theorem QkU(w:World)(k:Int)(s:BA)(hs:s.size<=281474976710656)(e0:Int)(he:tkE k s=e0)(h0:e0≠0) :
  Calls prog 18 #[.int .i64 k,.string s] w fun e w'=>e= .returned (.tuple #[noP,.int .i64 e0])∧Below w.heap.size w w':=by
 obtain⟨W0,hW0,h6,hb0,_⟩:=Us w (.int .i64 0) (.int .i64 0) (.int .u64 0) (.int .u64 0) (.slice none 0 0) (.slice none 0 0);have HX:Hid (∀F,Below W0.heap.size W0 F->Six F w.heap.size (.int .i64 0) (.int .i64 0) (.int .u64 0) (.int .u64 0) (.slice none 0 0) (.slice none 0 0)∧Below w.heap.size w F):=fun F hF=>⟨h6.next hF,Qa hb0 hF⟩
 clear h6 hb0
 rcases Qip he h0 with ⟨hc,rfl⟩|⟨hc,hd,rfl⟩|⟨hc,P,hd,hp,rfl⟩
 ·have HC:Hid (∀W,Calls prog 47 #[.int .i64 k] W fun e w'=>e= .returned (.int .i64 70)∧w'=W):=fun W=>by rw[<-hc];exact QB W k
  clear hc he h0 hs;obtain⟨x6,xb⟩:=HX.out _ (Lc _ _);obtain⟨c0,c1,c2,c3,c4,c5⟩:=x6.cells;have fz:=x6.fz;have hp:=x6.put (.int .i64 0) (.int .i64 0) (.int .u64 0) (.int .u64 0) (.slice none 0 0) (.slice none 0 0);have hc:=Yv W0 w.heap.size (.int .i64 0) (.int .i64 0) (.int .u64 0) (.int .u64 0) (.slice none 0 0) (.slice none 0 0);unfold Yb at hp hc;have HB:=Qc (Lx hp (Lx hc xb));clear hp hc xb x6
  go_enter func18,ntmps18
  go_upto_region 1 with (fail)
  try rw[hW0]
  clear hW0
  go_upto_region 3 with (go_at_call 47;with_reducible refine(HC.out _).mono ?_;rintro e w1 ⟨rfl,rfl⟩)
  repeat go_step
  obtain⟨hp,hc,xb⟩:=HB.out;obtain⟨s0,s1,s2,s3,s4,s5⟩:=hp.cells;refine LA (v := .tuple #[noP,.int .i64 70]) (by simp[results,results18,go_sem,s0,s1,s2,s3,s4,s5]) rfl ⟨rfl,xb.trans (hc.below (by rintro b rfl;omega))⟩
 ·have HC:Hid (∀W,Calls prog 47 #[.int .i64 k] W fun e w'=>e= .returned (.int .i64 0)∧w'=W):=fun W=>by rw[<-hc];exact QB W k
  have HD:Hid (∀W,Calls prog 28 #[.string s] W fun e w'=>e= .returned (.tuple #[noP,.int .i64 140])∧Below W.heap.size W w'):=fun W=>Qeh W s hs hd
  clear hc he h0 hs hd
  go_enter func18,ntmps18
  go_upto_region 1 with (fail)
  try rw[hW0]
  clear hW0
  go_upto_region 5 with (first
   | (go_at_call 47;with_reducible refine(HC.out _).mono ?_;rintro e w1 ⟨rfl,rfl⟩)
   | (go_at_call 28;with_reducible refine(HD.out _).mono ?_;rintro e w2 ⟨rfl,hb2⟩))
  obtain⟨F,hF,h7,hb3,_⟩:=Us w2 (.int .i64 0) (.int .i64 0) (.int .u64 0) (.int .u64 0) (.slice none 0 0) (.slice none 0 0)
  try rw[hF]
  clear hF h7;obtain⟨x6,xb⟩:=HX.out _ (Qa hb2 hb3);obtain⟨c0,c1,c2,c3,c4,c5⟩:=x6.cells;have fz:=x6.fz;have hp:=x6.put (.int .i64 0) (.int .i64 0) (.int .u64 0) (.int .u64 0) (.slice none 0 0) (.slice none 0 0);have hc:=Yv F w.heap.size (.int .i64 0) (.int .i64 0) (.int .u64 0) (.int .u64 0) (.slice none 0 0) (.slice none 0 0);unfold Yb at hp hc;have HB:=Qc (Lx hp (Lx hc xb));clear hp hc xb x6 hb2 hb3
  repeat go_step
  obtain⟨hp,hc,xb⟩:=HB.out;obtain⟨s0,s1,s2,s3,s4,s5⟩:=hp.cells;refine LA (v := .tuple #[noP,.int .i64 140]) (by simp[results,results18,go_sem,s0,s1,s2,s3,s4,s5]) rfl ⟨rfl,xb.trans (hc.below (by rintro b rfl;omega))⟩
 ·have HC:Hid (∀W,Calls prog 47 #[.int .i64 k] W fun e w'=>e= .returned (.int .i64 0)∧w'=W):=fun W=>by rw[<-hc];exact QB W k
  have HD:Hid (∀W,Calls prog 28 #[.string s] W fun e w'=> ∃(kd kk:Int) (old size:Nat) (sa:OA) (ns sc:Nat) (da:OA) (nd' dc:Nat),(kk == k)=false ∧ ¬kk=k∧e= .returned (.tuple #[.agg #[.int .i64 kd,.int .i64 kk,.int .u64 old,.int .u64 size,.slice sa ns sc,.slice da nd' dc],.int .i64 0])∧Below W.heap.size W w'):=fun W=>(Ju W s hs P hd).mono fun e w' ⟨sa,sb,sc,da,db,dc,h1,_,_,h3⟩=>⟨P.kd,P.k,P.old,P.size,sa,P.S.length,sc,da,P.D.length,dc,by simpa using hp,hp,h1,h3⟩
  clear hc he h0 hs hd hp
  go_enter func18,ntmps18
  go_upto_region 1 with (fail)
  try rw[hW0]
  clear hW0
  go_upto_region 5 with (first
   | (go_at_call 47;with_reducible refine(HC.out _).mono ?_;rintro e w1 ⟨rfl,rfl⟩)
   | (go_at_call 28;with_reducible refine(HD.out _).mono ?_;rintro e w2 ⟨kd,kk,old,size,sa,ns,sc,da,nd',dc,hkb,hkn,rfl,hb2⟩))
  obtain⟨F,hF,h7,hb3,_⟩:=Us w2 (.int .i64 kd) (.int .i64 kk) (.int .u64 old) (.int .u64 size) (.slice sa ns sc) (.slice da nd' dc)
  try rw[hF]
  clear hF;have m1:=h7.cells.2.1;obtain⟨x6,xb⟩:=HX.out _ (Qa hb2 hb3);obtain⟨c0,c1,c2,c3,c4,c5⟩:=x6.cells;have fz:=x6.fz;have hp:=x6.put (.int .i64 0) (.int .i64 0) (.int .u64 0) (.int .u64 0) (.slice none 0 0) (.slice none 0 0);have hc:=Yv F w.heap.size (.int .i64 0) (.int .i64 0) (.int .u64 0) (.int .u64 0) (.slice none 0 0) (.slice none 0 0);unfold Yb at hp hc;have HB:=Qc (Lx hp (Lx hc xb));clear hp hc xb x6 hb2 hb3 h7
  repeat go_step
  obtain⟨hp,hc,xb⟩:=HB.out;obtain⟨s0,s1,s2,s3,s4,s5⟩:=hp.cells;refine LA (v := .tuple #[noP,.int .i64 150]) (by simp[results,results18,go_sem,s0,s1,s2,s3,s4,s5]) rfl ⟨rfl,xb.trans (hc.below (by rintro b rfl;omega))⟩
theorem Qe3(w:World)(k:Int)(k1:1<=k)(k2:k<=32)(s:BA)(hs:s.size<=281474976710656)(P:PV)(hd:dec s.data.toList=some P)(hk:P.k=k) :
  Calls prog 18 #[.int .i64 k,.string s] w fun e w'=> ∃sa sb sc da db dc,e= .returned (.tuple #[.agg #[.int .i64 P.kd,.int .i64 k,.int .u64 P.old,.int .u64 P.size,.slice sa P.S.length sc,.slice da P.D.length dc],.int .i64 0])∧RdF w' sa sb sc da db dc P∧Below w.heap.size w w':=by
 have hw:=(Qc1 hd).1;obtain⟨kd,kk,old,size,S,D⟩:=P;simp only at hk;subst hk;obtain⟨W0,hW0,h6,hb0,_⟩:=Us w (.int .i64 0) (.int .i64 0) (.int .u64 0) (.int .u64 0) (.slice none 0 0) (.slice none 0 0);have HX:Hid (∀F,Below W0.heap.size W0 F->Six F w.heap.size (.int .i64 0) (.int .i64 0) (.int .u64 0) (.int .u64 0) (.slice none 0 0) (.slice none 0 0)∧Below w.heap.size w F):=fun F hF=>⟨h6.next hF,Qa hb0 hF⟩
 have HZ:Hid (w.heap.size<W0.heap.size):=h6.lt;have HC:Hid (∀W,Calls prog 47 #[.int .i64 kk] W fun e w'=>e= .returned (.int .i64 0)∧w'=W):=fun W=>by
  have hc:chk kk=0:=by rw[chk,Le (by omega)]
  rw[<-hc];exact QB W kk
 have HD:Hid (∀W,Calls prog 28 #[.string s] W fun e w'=> ∃sa sc da dc,e= .returned (.tuple #[.agg #[.int .i64 kd,.int .i64 kk,.int .u64 old,.int .u64 size,.slice sa S.length sc,.slice da D.length dc],.int .i64 0])∧Hid (Cv.Own w' W.heap.size (.slice sa S.length sc) S∧Qg w' W.heap.size (.slice da D.length dc) D)∧Below W.heap.size W w'):=fun W=>(Ju W s hs _ hd).mono fun e w' ⟨sa,sb,sc,da,db,dc,h1,_,h2,h3⟩=>⟨sa,sc,da,dc,h1,h2,h3⟩
 have HW:=Qc hw;clear h6 hb0 hs hd k1 k2 hw
 go_enter func18,ntmps18
 go_upto_region 1 with (fail)
 try rw[hW0]
 clear hW0
 go_upto_region 5 with (first
  | (go_at_call 47;with_reducible refine(HC.out _).mono ?_;rintro e w1 ⟨rfl,rfl⟩)
  | (go_at_call 28;with_reducible refine(HD.out _).mono ?_;rintro e w2 ⟨sa,sc,da,dc,rfl,HO,hb2⟩))
 obtain⟨F,hF,h7,hb3,_⟩:=Us w2 (.int .i64 kd) (.int .i64 kk) (.int .u64 old) (.int .u64 size) (.slice sa S.length sc) (.slice da D.length dc)
 try rw[hF]
 clear hF;obtain⟨m0,m1,m2,m3,m4,m5⟩:=h7.cells;obtain⟨x6,xb⟩:=HX.out _ (Qa hb2 hb3);obtain⟨c0,c1,c2,c3,c4,c5⟩:=x6.cells;have fz:=x6.fz;have hp:=x6.put (.int .i64 kd) (.int .i64 kk) (.int .u64 old) (.int .u64 size) (.slice sa S.length sc) (.slice da D.length dc);have hc:=Yv F w.heap.size (.int .i64 kd) (.int .i64 kk) (.int .u64 old) (.int .u64 size) (.slice sa S.length sc) (.slice da D.length dc);have hr:∃sb db,RdF (Yb F w.heap.size (.int .i64 kd) (.int .i64 kk) (.int .u64 old) (.int .u64 size) (.slice sa S.length sc) (.slice da D.length dc)) sa sb sc da db dc ⟨kd,kk,old,size,S,D⟩:=by
  obtain⟨o1,o2⟩:=HO.out;have hz:=HZ.out;have z1:Cv.Own (Yb F w.heap.size (.int .i64 kd) (.int .i64 kk) (.int .u64 old) (.int .u64 size) (.slice sa S.length sc) (.slice da D.length dc)) w1.heap.size (.slice sa S.length sc) S:=Qr (Cv.Qcy o1 hb3) fun g _ hB=>hc.block g (by show ¬_=_;omega)
  have z2:Qg (Yb F w.heap.size (.int .i64 kd) (.int .i64 kk) (.int .u64 old) (.int .u64 size) (.slice sa S.length sc) (.slice da D.length dc)) w1.heap.size (.slice da D.length dc) D:=Qr (Qv o2 hb3 (Lb _)) fun g _ hB=>hc.block g (by show ¬_=_;omega)
  obtain⟨a1,b1,c1,a2,b2,c2,e1,e2,r⟩:=Qg1 HW.out z1 z2;injection e1 with g1 _ g3
  injection e2 with g4 _ g6
  subst g1 g3 g4 g6;exact⟨b1,b2,r⟩
 unfold Yb at hp hc hr;have HB:=Qc (Lx hp (Lx hc (Lx xb hr)));clear hp hc xb x6 hb2 hb3 h7 hr HO
 repeat go_step
 obtain⟨hp,hc,xb,sb,db,hr⟩:=HB.out;obtain⟨s0,s1,s2,s3,s4,s5⟩:=hp.cells;refine LA (v := .tuple #[.agg #[.int .i64 kd,.int .i64 kk,.int .u64 old,.int .u64 size,.slice sa S.length sc,.slice da D.length dc],.int .i64 0]) (by simp[results,results18,go_sem,s0,s1,s2,s3,s4,s5]) rfl ⟨sa,sb,sc,da,db,dc,rfl,hr,xb.trans (hc.below (by rintro b rfl;omega))⟩
def cK(l:List (Nat×BA)):List Value:=l.flatMap fun c=>[.int .u64 c.1,.string c.2]
theorem Qgu(c:Nat×BA)(l:List (Nat×BA)):cK (c::l)= .int .u64 c.1 :: .string c.2::cK l:=rfl
theorem Qn4(l:List (Nat×BA)):(cK l).length=2*l.length:=by
 induction l with
 | nil=>rfl
 | cons c l ih=>rw[Qgu,LJ,LJ,LJ,ih];omega
abbrev noC:Nat×BA:=(0,ByteArray.empty)
theorem QnH(l:List (Nat×BA)):∀j,j<l.length->(cK l)[j*2]? = some (.int .u64 ((l.getD j noC).1:Int))∧(cK l)[j*2+1]? = some (.string (l.getD j noC).2):=by
 induction l with
 | nil=>intro j hj;exact absurd hj (by simp)
 | cons c l ih=>
  intro j hj
  cases j with
  | zero=>exact⟨rfl,rfl⟩
  | succ j=>
   have:=ih j (by simpa using hj)
   rw[Qgu,show(j+1)*2=j*2+1+1 by omega,NQ,NQ,NQ,NQ,List.getD_cons_succ]
   exact this
structure RdK(w:World)(ao:OA)(b off n:Nat)(l:List (Nat×BA)):Prop where
 hl:l.length=n
 ptr:0<n->ao=some ⟨b,off,none⟩
 rng:w.rangeAt b off (cK l)
 sz:∀c∈l,c.2.size<=9223372036854775807
theorem RdK.at{w:World}{ao:OA}{b off n:Nat}{l:List (Nat×BA)}(h:RdK w ao b off n l){j:Nat}(hj:j<n):w.cell? ⟨b,off+j*2,none⟩=some (.int .u64 ((l.getD j noC).1:Int))∧w.cell? ⟨b,off+j*2+1,none⟩=some (.string (l.getD j noC).2):=by
 have:=QnH l j (by rw[h.hl];exact hj)
 exact⟨h.rng _ _ this.1,by rw[NR];exact h.rng _ _ this.2⟩
theorem RdK.lt{w:World}{ao:OA}{b off n:Nat}{l:List (Nat×BA)}(h:RdK w ao b off n l)(h0:0<n):b<w.heap.size:=Ll w _ (h.at h0).1
theorem RdK.next{w W:World}{ao:OA}{b off n:Nat}{l:List (Nat×BA)}(h:RdK w ao b off n l)(hb:Below w.heap.size w W):RdK W ao b off n l:=by
 refine⟨h.hl,h.ptr,?_,h.sz⟩
 by_cases h0:0<n
 ·exact Qk hb (h.lt h0) h.rng
 ·have:l=[]:=List.length_eq_zero_iff.1 (by rw[h.hl];omega)
  rw[this];intro j v hv;cases hv
theorem QmS(w:World)(ao:OA):RdK w ao 0 0 0 []:=⟨rfl,fun h=>absurd h (NB 0),(fun j v h=>by cases h),(fun c h=>by cases h)⟩
theorem QmT(w:World)(i:Nat)(s:BA)(hs:s.size<=9223372036854775807):RdK (w.alloc (.cells #[.int .u64 i,.string s] 41)) (Zp w.heap.size) w.heap.size 0 1 [(i,s)] :=
 ⟨rfl,fun _=>rfl,Qq w [.int .u64 i,.string s] 41,fun c hc=>by rw[List.mem_singleton.1 hc];exact hs⟩
abbrev ixs(l:List (Nat×BA)):List Nat:=l.map Prod.fst
abbrev vls(l:List (Nat×BA)):LB:=l.map Prod.snd
theorem Qbw(l:List (Nat×BA))(j:Nat):(ixs l).getD j 0=(l.getD j noC).1:=by
 rw[La,La,No]
 cases l[j]? <;> rfl
theorem QoA{S:List Nat}{l:List (Nat×BA)}(h:S.length=l.length)(he:∀j,j<S.length->S.getD j 0=(l.getD j noC).1):S=ixs l:=by
 refine List.ext_getElem (by rw[h,LI]) fun j h1 h2=> ?_
 have:=he j h1;rw[<-Qbw,La,La,Ld h1,Ld h2] at this;exact this
theorem Qhk(w:World)(sa:OA)(sb so sc:Nat)(S:List Nat)(hs:RdU w sa sb so S.length S)(hm:S.length<=17592186044416)(ca:OA)(cb co cn cc:Nat)(l:List (Nat×BA))(hc:RdK w ca cb co cn l)(r:Bool)(hr:decide (S=ixs l)=r) :
  Calls prog 48 #[.slice sa S.length sc,.slice ca cn cc] w fun e w'=>e= .returned (.bool r)∧Below w.heap.size w w':=by
 have hcl:=hc.hl
 by_cases hl:S.length=cn
 ·have HR:Hid (∀W,Below w.heap.size w W->RdU W sa sb so S.length S∧RdK W ca cb co cn l):=fun W hb=>⟨hs.next hb,hc.next hb⟩
  have HE:Hid (decide (S=ixs l)=r∧S.length=l.length):=⟨hr,by omega⟩
  have hm5:(S.length:Int)<=17592186044416:=by omega
  clear hs hc hr hm;obtain⟨n,hn⟩:∃n,S.length=n:=⟨_,rfl⟩;rw[hn] at hl hm5 HR ⊢;have HN:=Qc hn;clear hn hcl;subst hl
  go_enter func48,ntmps48;go_wp2
  go_loopg [14] n (fun g i wr=> ∃k:Nat,k<=n∧g=n-k∧i= .int .i64 k∧(∀j,j<k->S.getD j 0=(l.getD j noC).1)∧Below w.heap.size w wr)
  case atStart=>go_light;exact⟨0,Lm _,rfl,rfl,fun j hj=>absurd hj (NS j),Lc _ _⟩
  case round=>
   obtain⟨k,hk,rfl,rfl,he,hb⟩:=hrel;have hk0:(0:Int)<=(k:Int):=Lf _
   by_cases hlt:k<n
   ·obtain⟨r1,r2⟩:=HR.out wr hb;obtain rfl:=r1.ptr (by omega)
    obtain rfl:=r2.ptr (by omega)
    have c1:=r1.at hlt;have c2:=(r2.at hlt).1;have hz:(k:Int)<(n:Int):=by omega
    obtain⟨x,hx⟩:∃x,S.getD k 0=x:=⟨_,rfl⟩;obtain⟨y,hy⟩:∃y,(l.getD k noC).1=y:=⟨_,rfl⟩;rw[hx] at c1;rw[hy] at c2;have HX:Hid (S.getD k 0=x∧(l.getD k noC).1=y):=⟨hx,hy⟩;have H0:Hid ((∀j,j<k->S.getD j 0=(l.getD j noC).1)∧Below w.heap.size w wr):=⟨he,hb⟩;clear hx hy r1 r2 he hb
    by_cases hxy:y=x
    ·subst hxy;go_wp2
     go_roundg (n-(k+1))
     case rel=>
      go_light;refine⟨k+1,by omega,rfl,by go_num,fun j hj=> ?_,H0.out.2⟩
      by_cases hjk:j=k
      ·subst hjk;rw[HX.out.1,HX.out.2]
      ·exact H0.out.1 j (by omega)
     case measure=>go_light;omega
    ·have hxz:¬(y:Int)=(x:Int):=by omega
     have hxb:((y:Int) == (x:Int))=false:=by simpa using hxz
     have HF:Hid (false=r):=by
      rw[<-HE.out.1];refine(LC fun he=>hxy ?_).symm
      have:=LZ (fun t=>List.getD t k 0) he
      simp only[Qbw] at this;rw[HX.out.1,HX.out.2] at this;exact this.symm
     go_wp2
     go_ret
     obtain rfl:=HF.out;exact⟨rfl,H0.out.2⟩
   ·have hz:¬(k:Int)<(n:Int):=by omega
    have HF:Hid (true=r):=by
     rw[<-HE.out.1];exact(LS (QoA HE.out.2 fun j hj=>he j (by have:=HN.out;omega))).symm
    go_wp2
    go_ret
    obtain rfl:=HF.out;exact⟨rfl,hb⟩
 ·have HF:false=r:=by
   rw[<-hr];exact(LC fun he=>hl (by rw[he,LI,hcl])).symm
  subst HF;have hz:¬(S.length:Int)=(cn:Int):=by omega
  have hzb:((S.length:Int) == (cn:Int))=false:=by simpa using hz
  clear hs hc hr hm
  go_enter func48,ntmps48;go_wp2
  go_ret
  exact⟨rfl,Lc _ _⟩
theorem Qes(w:World)(kd k:Int)(old size:Nat)(sa:OA)(sb so sc:Nat)(S:List Nat)(hs:RdU w sa sb so S.length S)(hm:S.length<=17592186044416)(da:OA)(dn dc:Nat)(ca:OA)(cb co cn cc:Nat)(l:List (Nat×BA))(hc:RdK w ca cb co cn l)(r:Bool)(hr:decide ((kd=1∨kd=2)∧S=ixs l)=r) :
  Calls prog 19 #[vP kd k old size (.slice sa S.length sc) (.slice da dn dc),.slice ca cn cc] w fun e w'=>e= .returned (.bool r)∧Below w.heap.size w w':=by
 obtain⟨W0,hW0,h6,hb0,_⟩:=Us w (.int .i64 kd) (.int .i64 k) (.int .u64 old) (.int .u64 size) (.slice sa S.length sc) (.slice da dn dc);obtain⟨m0,m1,m2,m3,m4,m5⟩:=h6.cells;have HA:Hid (∀q,decide (S=ixs l)=q->Calls prog 48 #[.slice sa S.length sc,.slice ca cn cc] W0 fun e w'=>e= .returned (.bool q)∧Below W0.heap.size W0 w'):=fun q hq=>Qhk W0 sa sb so sc S (hs.next hb0) hm ca cb co cn cc l (hc.next hb0) q hq
 clear hs hc hm h6;unfold vP
 by_cases h1:kd=1
 ·subst h1;have HA':=HA.out r (by rw[<-hr];simp)
  clear hr HA
  go_enter func19,ntmps19
  go_upto_region 1 with (fail)
  try rw[hW0]
  clear hW0
  go_wp2_with (go_at_call 48;with_reducible refine HA'.mono ?_;rintro e w1 ⟨rfl,hb1⟩)
  go_ret
  exact⟨rfl,Qa hb0 hb1⟩
 ·have h1b:(kd == 1)=false:=by simpa using h1
  by_cases h2:kd=2
  ·subst h2;have HA':=HA.out r (by rw[<-hr];simp)
   clear hr HA
   go_enter func19,ntmps19
   go_upto_region 1 with (fail)
   try rw[hW0]
   clear hW0
   go_wp2_with (go_at_call 48;with_reducible refine HA'.mono ?_;rintro e w1 ⟨rfl,hb1⟩)
   go_ret
   exact⟨rfl,Qa hb0 hb1⟩
  ·have h2b:(kd == 2)=false:=by simpa using h2
   obtain rfl:false=r:=by rw[<-hr];exact(LC fun h=>h.1.elim h1 h2).symm
   clear hr HA
   go_enter func19,ntmps19
   go_upto_region 1 with (fail)
   try rw[hW0]
   clear hW0;go_wp2
   go_ret
   exact⟨rfl,hb0⟩
theorem Qlb(l:List (Nat×BA)){j:Nat}(h:j<l.length):vls (l.take (j+1))=vls (l.take j)++[(l.getD j noC).2]:=by
 unfold vls;rw[Ix,Nd,La,Ld h];rfl
theorem Qgg(w:World)(ca:OA)(cb co cn cc:Nat)(l:List (Nat×BA))(hc:RdK w ca cb co cn l)(hm:cn<=8796093021952) :
  Calls prog 21 #[.slice ca cn cc] w fun e w'=> ∃v,e= .returned v∧Qg w' w.heap.size v (vls l)∧Below w.heap.size w w':=by
 have HR:Hid (∀W,Below w.heap.size w W->RdK W ca cb co cn l):=fun W hb=>hc.next hb
 have HL:Hid (l.length=cn ∧ ∀c∈l,c.2.size<=9223372036854775807):=⟨hc.hl,hc.sz⟩;have hM:=QfJ w cn (by omega)
 have hO:=QbK w cn (by omega)
 have hm5:(cn:Int)<=8796093021952:=by omega
 have hb0:=bal (Lc w.heap.size w) (.cells (madeCells #[.string ByteArray.empty] cn) 9);obtain⟨W0,hW0⟩:∃W0,w.alloc (.cells (madeCells #[.string ByteArray.empty] cn) 9)=W0:=⟨_,rfl⟩;rw[hW0] at hM hO hb0;have HS:Hid (Qg W0 w.heap.size (.slice (Zp w.heap.size) 0 cn) []∧Below w.heap.size w W0):=⟨hO,hb0⟩;clear hc hm hO hb0 hW0
 go_enter func21,ntmps21;go_wp2
 go_loopg [3,11] cn (fun g v i wr=> ∃k:Nat,k<=cn∧g=cn-k∧i= .int .i64 k∧Qg wr w.heap.size v (vls (l.take k))∧Below w.heap.size w wr)
 case atStart=>go_light;exact⟨0,Lm _,rfl,rfl,HS.out.1,HS.out.2⟩
 case round=>
  obtain⟨k,hk,rfl,rfl,ho,hb⟩:=hrel;have hk0:(0:Int)<=(k:Int):=Lf _
  by_cases hlt:k<cn
  ·have r2:=HR.out wr hb;obtain rfl:=r2.ptr (by omega)
   obtain⟨c1,c2⟩:=r2.at hlt;have hz:(k:Int)<(cn:Int):=by omega
   have HV:Hid (vls (l.take (k+1))=vls (l.take k)++[(l.getD k noC).2]∧(l.getD k noC).2.size<=9223372036854775807):=⟨Qlb l (by have:=HL.out.1;omega),by
    have hk':k<l.length:=by have:=HL.out.1;omega
    refine HL.out.2 _ ?_
    rw[La,Ld hk'];exact LN _⟩
   have HLn:Hid ((vls (l.take k)).length<=8796093021952):=by
    show(vls (l.take k)).length<=8796093021952
    rw[LI,Lv];omega
   obtain⟨x,hx⟩:∃x,(l.getD k noC).1=x:=⟨_,rfl⟩;obtain⟨y,hy⟩:∃y,(l.getD k noC).2=y:=⟨_,rfl⟩;rw[hx] at c1;rw[hy] at c2 HV;have H0:=Qc (Lx ho hb);generalize vls (l.take k)=Lk at *;clear hx hy r2 ho hb
   go_upto_region 5 with (fail)
   obtain⟨w5,hw5⟩:∃w5,wr.alloc (.cells #[.int .u64 x,.string y] 41)=w5:=⟨_,rfl⟩
   try rw[hw5]
   have H5:Hid (Qg w5 w.heap.size u3 Lk∧Below w.heap.size w w5):=by rw[<-hw5];exact⟨Q4 H0.out.1 _,bal H0.out.2 _⟩
   have k5:=((QmT wr x y HV.out.2).at (j:=0) (by decide)).2
   rw[hw5] at k5;simp only[Nat.zero_mul,Nat.add_zero,Nat.zero_add] at k5;clear hw5 H0 c1 c2
   go_wp2_with (at_builtin;refine QM _ rfl _ _ rfl w.heap.size _ Lk rfl (Q4 H5.out.1 _) (Zp w5.heap.size) w5.heap.size 0 1 [y] rfl (YT w5 y HV.out.2) (fun h=>by cases h) ?c1 ?c2 ?_)
   case c1=>have:=HLn.out;simp;omega
   case c2=>have:=H5.out.2.size;simp;omega
   intro v' w3 o3 hb3;have HO3:=Qc (Lx o3 ((bal H5.out.2 (.cells #[.string y] 9)).trans hb3));clear o3 hb3;go_wp2
   go_roundg (cn-(k+1))
   case rel=>go_light;exact⟨k+1,by omega,rfl,by go_num,by rw[HV.out.1];exact HO3.out.1,HO3.out.2⟩
   case measure=>go_light;omega
  ·have hz:¬(k:Int)<(cn:Int):=by omega
   obtain rfl:k=cn:=by omega
   have HO:=Qc (Lx ho hb);clear ho hb;go_wp2
   go_ret
   refine⟨_,rfl,?_,HO.out.2⟩
   have:=HO.out.1;rw[Lu (by have:=HL.out.1;omega)] at this
   exact this
theorem QhR(bs:BA):∀(n i:Nat) (r:List UInt8),bs.size-i=n->ByteArray.toList.loop bs i r=r.reverse++bs.data.toList.drop i:=by
 intro n
 induction n with
 | zero=>
  intro i r h;rw[ByteArray.toList.loop,Le (by omega)]
  rw[Nc (by simp;exact(by omega:bs.size<=i)),L7]
 | succ n ih=>
  intro i r h;have hi:i<bs.size:=by omega
  rw[ByteArray.toList.loop,Lo hi,ih (i+1) _ (by omega)]
  have hl:i<bs.data.toList.length:=by simp;exact hi
  rw[LV hl,Iw,LP];have:bs.get! i=bs.data.toList[i]:=by
   show bs.data[i]! = _
   have hi2:i<bs.data.size:=hi;rw[getElem!_pos bs.data i hi2];simp
  rw[this];rfl
theorem QgS(bs:BA):bs.toList=bs.data.toList:=by
 rw[ByteArray.toList,QhR bs bs.size 0 [] rfl];rfl
theorem UE{x y:BA}(h:x≠y):(x.toList == y.toList)=false:=by
 rw[QgS,QgS];simp only[beq_eq_false_iff_ne,ne_eq];intro e;exact h (II (Array.toList_inj.1 e))
theorem OJ{x y:BA}(h:x≠y):¬x.toList=y.toList:=fun e=>by
 have:=UE h;rw[e] at this;simp at this
theorem Qm0{n o:Nat}{d c:BA}(h:¬(n=o∧d=c)):¬n=o∨(n=o∧d≠c):=by
 by_cases h1:n=o
 ·exact .inr ⟨h1,fun h2=>h ⟨h1,h2⟩⟩
 ·exact .inl h1
def YA(P:Program)(Q:Exit->Act->World->Prop)(ops:List Oper)(I:(Nat->Bool)->Act->World->Prop)(j:Nat)(o:Oper):Prop :=
 ∀(L:Nat->Bool) (a:Act) (w:World) (K:Act->World->Prop),I L a w->L j=false->(∀i k,L i=true->dep ops i k=true->L k=true) ->
  (∀k,(o.after.toList.any fun e=>e.on == k && Region.binds .any e)=true->L k=true) ->
  (∀v w',I (fun i=>if i=j then true else L i) (a.put o.dst v) w'->K (a.put o.dst v) w')->o.wp P a w K Q
theorem Jm{P:Program}{ops:Array Oper}{Q:Exit->Act->World->Prop}{id:Nat}{a0:Act}{w0:World}(hm:P.follows .mixedOrders=true)
  (hok:(List.range ops.size).all (fun j=>match ops[j]? with|none=>false|some o=>o.after.all (fun e=> !Region.binds .any e || decide (e.on<j)) && o.guard.isNone)=true)
  (I:(Nat->Bool)->Act->World->Prop) (h0:∀w,w.heap=w0.heap->Below w0.heap.size w0 w->I (fun _=>false) a0 w)
  (step:QaE (YA P Q ops.toList I) 0 ops.toList)
  (fin:∀L a w,(∀k,k<ops.size->L k=true)->I L a w->Q .normal a w):(Code.region id ops true).wp P Q a0 w0:=by
 have acy:∀(j:Nat) (o:Oper),ops[j]? = some o->(∀e∈o.after,Region.binds .any e=true->e.on<j)∧o.guard=none:=fun j o ho=>by
  have hj:j<ops.size:=(Array.getElem?_eq_some_iff.1 ho).1
  have h1:=List.all_eq_true.1 hok j (by simpa using hj)
  rw[ho] at h1;simp only[Bool.and_eq_true] at h1;refine⟨fun e he hb=> ?_,by simpa using h1.2⟩
  have:=Array.all_eq_true_iff_forall_mem.1 h1.1 e he
  simpa [hb] using this
 have core:∀(fuel:Nat) (listed:Array Bool) (a:Act) (w:World),listed.size=ops.size->cntU (fun k=>listed.getD k false) ops.size<=fuel ->
   I (fun k=>listed.getD k false) a w->(∀i k,listed.getD i false=true->dep ops.toList i k=true->listed.getD k false=true)->wpAny P .any ops Q fuel listed a w:=by
  intro fuel
  induction fuel with
  | zero=>
   intro listed a w hsz hc hI hcl;have hall:=Qcj (Nat.le_zero.1 hc);refine⟨?_,fin _ a w (fun k hk=>hall k hk) hI⟩
   apply List.eq_nil_iff_forall_not_mem.2
   intro i hi;obtain⟨h1,o,ho,_⟩:=mem_ready.1 hi;have hi':i<ops.size:=(Array.getElem?_eq_some_iff.1 ho).1
   have h2:=hall i hi';simp[Array.getD,hsz,hi'] at h1 h2;rw[h2] at h1;cases h1
  | succ fuel ih=>
   intro listed a w hsz hc hI hcl;have gd:∀i,i<ops.size->listed.getD i true=listed.getD i false:=fun i hi=>by simp[Array.getD,hsz,hi]
   refine⟨fun hr=> ?_,fun i hi=> ?_⟩
   ·refine fin _ a w ?_ hI
    have:∀n,∀k,k<n->k<ops.size->listed.getD k false=true:=by
     intro n
     induction n with
     | zero=>intro k hk;omega
     | succ n ihn=>
      intro k hk hks
      by_cases hlk:listed.getD k false=true
      ·exact hlk
      ·exfalso
       have hmem:k∈Region.ready .any ops listed:=by
        refine mem_ready.2 ⟨by rw[gd k hks];simpa using hlk,ops[k],Nq hks,fun e he hb=> ?_⟩
        have h1:=(acy k ops[k] (Nq hks)).1 e he hb;exact ihn e.on (by omega) (by omega)
       rw[hr] at hmem;cases hmem
    exact fun k hk=>this (k+1) k (by omega) hk
   ·obtain⟨h1,o,ho,hdep⟩:=mem_ready.1 hi;have hi':i<ops.size:=(Array.getElem?_eq_some_iff.1 ho).1
    have st:=Ol step (by rw[NM];exact ho)
    rw[Lp] at st;have dval:∀k,(o.after.toList.any fun e=>e.on == k && Region.binds .any e)=true->listed.getD k false=true:=fun k hk=>by
     obtain⟨e,he,h2⟩:=QcS hk;simp only[Bool.and_eq_true,beq_iff_eq] at h2;obtain⟨rfl,hbnd⟩:=h2;exact hdep e he hbnd
    have hfun:(fun k=>(listed.setIfInBounds i true).getD k false)=fun k=>if k=i then true else listed.getD k false:=by
     funext k
     by_cases e:k=i
     ·subst e;simp[Array.getD,hsz,hi']
     ·by_cases h:k<listed.size
      ·simp[Array.getD,h,e,Ne.symm e]
      ·simp[Array.getD,h,e]
    have hK:∀v w',I (fun k=>if k=i then true else listed.getD k false) (a.put o.dst v) w'->wpAny P .any ops Q fuel (listed.setIfInBounds i true) (a.put o.dst v) w':=fun v w' hI'=>by
     refine ih _ _ _ (by simp[hsz]) ?_ (by rw[hfun];exact hI') ?_
     ·have:=Qbb (p:=fun k=>listed.getD k false) (q:=fun k=>(listed.setIfInBounds i true).getD k false) (i:=i) (by rw[<-gd i hi'];exact h1) (by simp[Array.getD,hsz,hi']) (fun k hk=>by
       by_cases h:k<listed.size
       ·simp[Array.getD,h,Ne.symm hk]
       ·simp[Array.getD,h]) ops.size hi'
      omega
     ·intro x y hx hxy;have e1:(listed.setIfInBounds i true).getD x false=if x=i then true else listed.getD x false:=congrFun hfun x
      have e2:(listed.setIfInBounds i true).getD y false=if y=i then true else listed.getD y false:=congrFun hfun y
      rw[e1] at hx;rw[e2]
      by_cases ey:y=i
      ·rw[Lo ey]
      ·rw[Le ey]
       by_cases ex:x=i
       ·subst ex;refine dval y ?_
        have hxy':=hxy;unfold dep at hxy';rw[NM,ho] at hxy';exact hxy'
       ·rw[Le ex] at hx;exact hcl x y hx hxy
    have hst:=st (fun k=>listed.getD k false) a w (wpAny P .any ops Q fuel (listed.setIfInBounds i true)) hI (by rw[<-gd i hi'];exact h1) hcl dval hK
    unfold wpOp;simp only[ho];rw[Lo (by unfold Region.wanted;rw[(acy i o ho).2])]
    exact Or.inl hst
 refine wp_region_any hm (core ops.size _ a0 _ (by simp) ?_ ?_ ?_)
 ·rw[Od (q:=fun _=>false),Qci]
  ·exact Lb _
  ·intro k hk;simp[Array.getD,hk]
 ·have hf:(fun k=>(Array.replicate ops.size false).getD k false)=fun _=>false:=by
   funext k
   by_cases hk:k<ops.size
   ·simp[Array.getD,hk]
   ·simp[Array.getD,hk]
  rw[hf];exact h0 _ rfl ⟨rfl,rfl,rfl,Lb _,fun _ _=>rfl⟩
 ·intro i k hi hk
  exfalso
  by_cases hs:i<ops.size
  ·simp[Array.getD,hs] at hi
  ·simp[Array.getD,hs] at hi
theorem Qev(w:World)(kd k:Int)(h1:kd≠1)(old size:Nat)(sa:OA)(ns sc:Nat)(da:OA)(dn dc:Nat)(xa:OA)(xn xc:Nat)(n:Nat)(d:BA)(er:Int)
  (hR:∀W,Below w.heap.size w W->Calls prog 50 #[vP kd k old size (.slice sa ns sc) (.slice da dn dc),.slice xa xn xc] W fun e w'=>e= .returned (.tuple #[.agg #[.int .u64 n,.string d],.int .i64 er])∧Below W.heap.size W w') :
  Calls prog 20 #[vP kd k old size (.slice sa ns sc) (.slice da dn dc),.slice xa xn xc] w fun e w'=>e= .returned (.tuple #[.agg #[.int .u64 n,.string d],.int .i64 er])∧Below w.heap.size w w':=by
 obtain⟨W0,hW0⟩:∃W0,(w.alloc (.cells #[.int .i64 kd,.int .i64 k,.int .u64 old,.int .u64 size,.slice sa ns sc,.slice da dn dc] 68)).alloc (.cells #[.int .u64 0,.string ⟨#[]⟩] 33)=W0:=⟨_,rfl⟩;obtain⟨hb0,h6,hR0,hz0⟩:=Yj hW0;obtain⟨m0,m1,m2,m3,m4,m5⟩:=h6.cells;have h1b:(kd == 1)=false:=by simpa using h1
 have HC:=(hR W0 hb0);have HR0:Hid (Rt W0 (w.heap.size+1) 0 ⟨#[]⟩∧Below w.heap.size w W0∧w.heap.size+1<W0.heap.size):=⟨hR0,hb0,by omega⟩
 clear hR hb0 h6 hR0 hz0;unfold vP at HC;unfold vP
 go_enter func20,ntmps20
 go_upto_region 1 with (fail)
 try rw[hW0]
 clear hW0
 go_wp2_with (go_at_call 50;with_reducible refine HC.mono ?_;rintro e w1 ⟨rfl,hb1⟩;have hR:=HR0.out.1.below hb1 HR0.out.2.2;have k0:=hR.c0;have k1:=hR.c1;have f0:=hR.f0;have f1:=hR.f1)
 obtain⟨s0,s1,hch⟩:=Uu hR (n:Int) d;refine LA (v := .tuple #[.agg #[.int .u64 n,.string d],.int .i64 er]) (by simp[results,results20,go_sem,s0,s1]) rfl ⟨rfl,?_⟩
 exact(Qa HR0.out.2.1 hb1).trans (hch.below (by rintro b rfl;omega))
section
open Cv (RdC zl cU cov)
open Pl (pw)
theorem QcG{w W:World}{B T s n:Nat}{v:Value}{xs:List Value}(h:w.ownsRow B T s v n xs)(hb:Below w.heap.size w W):W.ownsRow B T s v n xs :=
 Qr h fun g hg _=>hb.block g (LX h g hg).2
theorem Qob{w:World}{g0:Nat}{u0 u1:Value}{L0 L1:List (Int×Nat)}(c0:w.cell? ⟨g0,0,none⟩=some u0)(c1:w.cell? ⟨g0,1,none⟩=some u1)(r0:RdC w u0 L0.length (Cv.cB L0))(r1:RdC w u1 L1.length (Cv.cB L1)):CatB w g0 [u0,u1] [L0,L1]:=by
 refine⟨rfl,fun j hj=> ?_,fun j hj=> ?_⟩
 ·match j with
  | 0=>exact c0
  | 1=>exact c1
  | n+2=>simp at hj;omega
 ·match j with
  | 0=>exact r0
  | 1=>exact r1
  | n+2=>simp at hj;omega
def Rh(w:World)(g n:Nat)(d:BA):Prop:=w.heap[g]? = some (.cells #[.int .u64 n,.string d] 33 (0,0))
section
variable {w W:World} {g n:Nat} {d:BA}
theorem Rh.cells(t:Rh w g n d):w.cell? ⟨g,0,none⟩=some (.int .u64 n)∧w.cell? ⟨g,1,none⟩=some (.string d) :=
 ⟨by rw[cell_of_row w g 0 _ _ (0,0) t];rfl,by rw[cell_of_row w g 1 _ _ (0,0) t];rfl⟩
theorem Rh.fz(t:Rh w g n d)(j:Nat):w.frozen? ⟨g,j,none⟩=false:=frozen_of_row w g j _ _ t
theorem Rh.lt(t:Rh w g n d):g<w.heap.size:=(Array.getElem?_eq_some_iff.1 t).1
theorem Rh.same(t:Rh w g n d)(hb:W.heap[g]? = w.heap[g]?):Rh W g n d:=hb.trans t
theorem Rh.next(t:Rh w g n d)(hb:Below w.heap.size w W):Rh W g n d:=t.same (hb.block g t.lt)
theorem Qky(w:World)(n:Nat)(d:BA):Rh (w.alloc (.cells #[.int .u64 n,.string d] 33)) w.heap.size n d:=Lr w _
def putR(w:World)(g n:Nat)(d:BA):World:=(w.setCell ⟨g,0,none⟩ (.int .u64 n)).setCell ⟨g,1,none⟩ (.string d)
theorem Rh.put(t:Rh w g n d)(n':Nat)(d':BA):Rh (putR w g n' d') g n' d':=by
 have h0:=Ln w g 0 _ _ (.int .u64 n') t;exact Ln _ g 1 _ _ (.string d') h0
theorem Qdy(w:World)(g n:Nat)(d:BA):ChT (fun x=>x=g) w (putR w g n d):=((ChT.refl (fun x=>x=g) w).set g 0 _ rfl).set g 1 _ rfl
end
section
variable {w W:World} {s0:Nat} {kd k:Int} {old size:Nat} {vs vd:Value} {n1 n2:Nat} {d1 d2:BA}
end
section
variable {w W:World} {g k:Nat} {h:Int}
end
section
variable {w W:World} {s0 q:Nat} {v u:Value} {T:List (Nat×Nat)} {P:LB}
end
theorem Qkf{w:World}{B T s n m c:Nat}{ao:OA}{xs:List Value}(h:w.ownsRow B T s (.slice ao m c) n xs)(hn:0<n):∃g,ao=Zp g∧B<=g∧g<w.heap.size:=by
 rcases h.2 with ⟨_,h3⟩|⟨g,_,_,h2,hg,hh,_⟩
 ·omega
 ·cases h2;exact⟨g,rfl,hg,(Array.getElem?_eq_some_iff.1 hh).1⟩
section
variable {W w w':World} {s0 q:Nat} {v u:Value} {C:List (Nat×Nat)} {P:LB} {h k:Nat} {x:BA} {b0 b1 b2 b3 b4 b5 b6 b7 b8 b9:Bool} {y0 y1 y2 y3 y4 y5 y6 y7:Value}
end
section
variable {W w w':World} {s0 q:Nat} {v u:Value} {C:List (Nat×Nat)} {P:LB} {h k:Nat} {x:BA} {L L':Nat->Bool} {a:Act}
theorem Qb(a:Act)(d t:Nat)(y:Value)(hd:d<a.tmps.size):(a.put (some d) y).tmps.getD t undef=if t=d then y else a.tmps.getD t undef:=by
 by_cases e:t=d
 ·subst e;rw[Lo rfl,Qbo a t y hd]
 ·rw[Le e,Uk a d t y (Ne.symm e)]
end
section
variable {W:World} {s0 q:Nat} {v u:Value} {C:List (Nat×Nat)} {P:LB} {h k:Nat} {x:BA} {Q:Exit->Act->World->Prop} {ops:List Oper} {ty:TypeId} {ps:String} {af:Array Edge}
theorem QaO{L:Nat->Bool}{i j:Nat}(hcl:∀i k,L i=true->dep ops i k=true->L k=true)(hj:L j=false)(hd:dep ops i j=true):L i=false:=by
 cases h:L i with
 | false=>rfl
 | true=>rw[hcl i j h hd] at hj;cases hj
end
end
end Go.Proofs.YtoblgjledefdbabGreatDoor
