/- Own work. -/
import Derived.Test.YtdocjikpcbmcgaaGreatDoorQn10
set_option maxRecDepth 100000
set_option maxHeartbeats 1000000
namespace Go.Proofs.YtdocjikpcbmcgaaGreatDoor
open Go.RowKit
attribute [local go_sem ↓] Go.wp_at_zero Go.wp_at_succ
open Go.Proofs.Tryz
structure RdF(w:World)(sa:OA)(sb sc:Nat)(da:OA)(db dc:Nat)(P:PV):Prop where
 p:RdPC w sa sb 0 sc da db 0 dc P
 cS:P.S.length<=sc
 nS:sa=none->sc=0
 nD:da=none->dc=0
 mC:dc<=9223372036854775807
theorem RdF.next{w W:World}{sa:OA}{sb sc:Nat}{da:OA}{db dc:Nat}{P:PV}(h:RdF w sa sb sc da db dc P)(hb:Zb w W):RdF W sa sb sc da db dc P:=⟨h.p.next hb,h.cS,h.nS,h.nD,h.mC⟩
theorem QgY{w:World}{B T s n c m:Nat}{ao:OA}{xs:List Value}(h:w.ownsRow B T s (.slice ao n c) m xs):n=m∧n<=c∧c<=9223372036854775807:=by
 rcases h.2 with ⟨h1,h0⟩|⟨g,cap,cur,h1,hg,hh,hc1,hc2,_⟩
 ·injection h1 with _ h2 h3
  subst h2 h3;exact⟨h0.symm,Ld _,Ll _⟩
 ·injection h1 with _ h2 h3
  subst h2 h3;exact⟨rfl,hc1,hc2⟩
theorem Qg0{w:World}{B:Nat}{sv dv:Value}{P:PV}(h:Y7 P)(o1:Cv.Own w B sv P.S)(o2:Qk w B dv P.D) : ∃sa sb sc da db dc,sv = .slice sa P.S.length sc∧dv = .slice da P.D.length dc∧RdF w sa sb sc da db dc P:=by
 have ho:=QK h.1;have i1:=ho.hold;have i2:=ho.hsz;have i3:=ho.len;have i4:=ho.hc;have i5:=ho.k32;obtain⟨sa,sb,sc,rfl,r1,n1⟩:=UH o1;obtain⟨da,db,dc,rfl,r2,r3,n2⟩:=Qt o2 (fun d hd=>by have:=h.2 d hd;omega)
 exact⟨sa,sb,sc,da,db,dc,rfl,rfl,⟨r1,r2,by omega,by omega,by omega,by omega,r3⟩,(QgY o1).2.1,n1,n2,(QgY o2).2.2⟩
theorem UP(w:World)(s:BA)(hs:s.size<=281474976710656)(P:PV)(h:dec s.data.toList=some P) :
  Calls prog 25 #[.string s] w fun e w' => ∃sa sb sc da db dc,e = .returned (.tuple #[.agg #[.int .i64 P.kd,.int .i64 P.k,.int .u64 (P.old:Int),.int .u64 (P.size:Int),.slice sa P.S.length sc,.slice da P.D.length dc],.int .i64 0])∧RdF w' sa sb sc da db dc P∧(Cv.Own w' w.heap.size (.slice sa P.S.length sc) P.S∧Qk w' w.heap.size (.slice da P.D.length dc) P.D)∧Zb w w':=by
 refine(QbH w s hs).mono ?_
 rintro e w' (⟨P',sv,dv,h1,rfl,h3,h4,h5⟩|⟨h1,_⟩)
 ·rw[h] at h1;cases h1;obtain⟨sa,sb,sc,da,db,dc,rfl,rfl,r⟩:=Qg0 (J3 h).1 h3 h4;exact⟨sa,sb,sc,da,db,dc,rfl,r,⟨h3,h4⟩,h5⟩
 ·rw[h] at h1;cases h1
def tkE(k:Int)(s:BA):Int:=if k<1∨32<k then 70 else match dec s.data.toList with|none=>140|some P=>if P.k=k then 0 else 150
theorem Qdm{k e0:Int}{s:BA}(h:tkE k s=e0)(h0:e0≠0):(chk k=70∧e0=70)∨(chk k=0∧dec s.data.toList=none∧e0=140)∨(chk k=0 ∧ ∃P,dec s.data.toList=some P∧P.k≠k∧e0=150):=by
 unfold tkE at h
 by_cases hk:k<1∨32<k
 ·rw[Lm hk] at h;exact .inl ⟨by rw[chk,Lm hk],h.symm⟩
 ·rw[Le hk] at h;have hc:chk k=0:=by rw[chk,Le hk]
  cases hd:dec s.data.toList with
  | none=>rw[hd] at h;exact .inr (.inl ⟨hc,rfl,h.symm⟩)
  | some P =>
   rw[hd] at h
   by_cases hp:P.k=k
   ·simp only[if_pos hp] at h;exact absurd h.symm h0
   ·simp only[if_neg hp] at h;exact .inr (.inr ⟨hc,P,rfl,hp,h.symm⟩)
theorem Qft{k:Int}{s:BA}(h:tkE k s=0):(1<=k∧k<=32) ∧ ∃P,dec s.data.toList=some P∧P.k=k:=by
 unfold tkE at h
 by_cases hk:k<1∨32<k
 ·rw[Lm hk] at h;cases h
 ·rw[Le hk] at h
  cases hd:dec s.data.toList with
  | none=>rw[hd] at h;cases h
  | some P =>
   rw[hd] at h
   by_cases hp:P.k=k
   ·exact⟨by omega,P,rfl,hp⟩
   ·simp only[if_neg hp] at h;cases h
theorem QkC(w:World)(k:Int)(s:BA)(hs:s.size<=281474976710656)(e0:Int)(he:tkE k s=e0)(h0:e0≠0) :
  Zr 27 #[.int .i64 k,.string s] w (.tuple #[noP,.int .i64 e0]):=by
 obtain⟨W0,xA,h6,xD,_⟩:=Yk w (.int .i64 0) (.int .i64 0) (.int .u64 0) (.int .u64 0) (.slice none 0 0) (.slice none 0 0);have HX:Hid (∀F,Zb W0 F->Six F w.heap.size (.int .i64 0) (.int .i64 0) (.int .u64 0) (.int .u64 0) (.slice none 0 0) (.slice none 0 0)∧Zb w F):=fun F hF=>⟨h6.next hF,Qa xD hF⟩
 clear h6 xD
 rcases Qdm he h0 with ⟨hc,rfl⟩|⟨hc,hd,rfl⟩|⟨hc,P,hd,hp,rfl⟩
 ·have HC:Hid (∀W,Calls prog 61 #[.int .i64 k] W fun e w'=>e = .returned (.int .i64 70)∧w'=W):=fun W=>by rw[<-hc];exact QV W k
  clear hc he h0 hs;obtain⟨x6,xb⟩:=HX.out _ (Lb _ _);obtain⟨c0,c1,c2,c3,c4,c5⟩:=x6.cells;have fz:=x6.fz;have hp:=x6.put (.int .i64 0) (.int .i64 0) (.int .u64 0) (.int .u64 0) (.slice none 0 0) (.slice none 0 0);have hc:=QQ W0 w.heap.size (.int .i64 0) (.int .i64 0) (.int .u64 0) (.int .u64 0) (.slice none 0 0) (.slice none 0 0);unfold QZ at hp hc;have HB:=Qe (Lo hp (Lo hc xb));clear hp hc xb x6
  go_enter func27,ntmps27
  go_upto_region 1 with (fail)
  try rw[xA]
  clear xA
  go_upto_region 3 with (go_at_call 61;with_reducible refine(HC.out _).mono ?_;rintro e w1 ⟨rfl,rfl⟩)
  repeat go_step
  obtain⟨hp,hc,xb⟩:=HB.out;obtain⟨s0,s1,s2,s3,s4,s5⟩:=hp.cells;refine Lp (v := .tuple #[noP,.int .i64 70]) (by simp[results,results27,go_sem,s0,s1,s2,s3,s4,s5]) rfl ⟨rfl,xb.trans (hc.below (by rintro b rfl;omega))⟩
 ·have HC:Hid (∀W,Calls prog 61 #[.int .i64 k] W fun e w'=>e = .returned (.int .i64 0)∧w'=W):=fun W=>by rw[<-hc];exact QV W k
  have HD:Hid (∀W,Zr 25 #[.string s] W (.tuple #[noP,.int .i64 140])):=fun W=>QeJ W s hs hd
  clear hc he h0 hs hd
  go_enter func27,ntmps27
  go_upto_region 1 with (fail)
  try rw[xA]
  clear xA
  go_upto_region 5 with (first
   | (go_at_call 61;with_reducible refine(HC.out _).mono ?_;rintro e w1 ⟨rfl,rfl⟩)
   | (go_at_call 25;with_reducible refine(HD.out _).mono ?_;rintro e w2 ⟨rfl,xB⟩))
  obtain⟨F,hF,h7,xC,_⟩:=Yk w2 (.int .i64 0) (.int .i64 0) (.int .u64 0) (.int .u64 0) (.slice none 0 0) (.slice none 0 0)
  try rw[hF]
  clear hF h7;obtain⟨x6,xb⟩:=HX.out _ (Qa xB xC);obtain⟨c0,c1,c2,c3,c4,c5⟩:=x6.cells;have fz:=x6.fz;have hp:=x6.put (.int .i64 0) (.int .i64 0) (.int .u64 0) (.int .u64 0) (.slice none 0 0) (.slice none 0 0);have hc:=QQ F w.heap.size (.int .i64 0) (.int .i64 0) (.int .u64 0) (.int .u64 0) (.slice none 0 0) (.slice none 0 0);unfold QZ at hp hc;have HB:=Qe (Lo hp (Lo hc xb));clear hp hc xb x6 xB xC
  repeat go_step
  obtain⟨hp,hc,xb⟩:=HB.out;obtain⟨s0,s1,s2,s3,s4,s5⟩:=hp.cells;refine Lp (v := .tuple #[noP,.int .i64 140]) (by simp[results,results27,go_sem,s0,s1,s2,s3,s4,s5]) rfl ⟨rfl,xb.trans (hc.below (by rintro b rfl;omega))⟩
 ·have HC:Hid (∀W,Calls prog 61 #[.int .i64 k] W fun e w'=>e = .returned (.int .i64 0)∧w'=W):=fun W=>by rw[<-hc];exact QV W k
  have HD:Hid (∀W,Calls prog 25 #[.string s] W fun e w' => ∃(kd kk:Int) (old size:Nat) (sa:OA) (ns sc:Nat) (da:OA) (nd' dc:Nat),(kk == k)=false ∧ ¬kk=k∧e = .returned (.tuple #[.agg #[.int .i64 kd,.int .i64 kk,.int .u64 (old:Int),.int .u64 (size:Int),.slice sa ns sc,.slice da nd' dc],.int .i64 0])∧Zb W w'):=fun W=>(UP W s hs P hd).mono fun e w' ⟨sa,sb,sc,da,db,dc,h1,_,_,h3⟩=>⟨P.kd,P.k,P.old,P.size,sa,P.S.length,sc,da,P.D.length,dc,by simpa using hp,hp,h1,h3⟩
  clear hc he h0 hs hd hp
  go_enter func27,ntmps27
  go_upto_region 1 with (fail)
  try rw[xA]
  clear xA
  go_upto_region 5 with (first
   | (go_at_call 61;with_reducible refine(HC.out _).mono ?_;rintro e w1 ⟨rfl,rfl⟩)
   | (go_at_call 25;with_reducible refine(HD.out _).mono ?_;rintro e w2 ⟨kd,kk,old,size,sa,ns,sc,da,nd',dc,xE,xF,rfl,xB⟩))
  obtain⟨F,hF,h7,xC,_⟩:=Yk w2 (.int .i64 kd) (.int .i64 kk) (.int .u64 (old:Int)) (.int .u64 (size:Int)) (.slice sa ns sc) (.slice da nd' dc)
  try rw[hF]
  clear hF;have m1:=h7.cells.2.1;obtain⟨x6,xb⟩:=HX.out _ (Qa xB xC);obtain⟨c0,c1,c2,c3,c4,c5⟩:=x6.cells;have fz:=x6.fz;have hp:=x6.put (.int .i64 0) (.int .i64 0) (.int .u64 0) (.int .u64 0) (.slice none 0 0) (.slice none 0 0);have hc:=QQ F w.heap.size (.int .i64 0) (.int .i64 0) (.int .u64 0) (.int .u64 0) (.slice none 0 0) (.slice none 0 0);unfold QZ at hp hc;have HB:=Qe (Lo hp (Lo hc xb));clear hp hc xb x6 xB xC h7
  repeat go_step
  obtain⟨hp,hc,xb⟩:=HB.out;obtain⟨s0,s1,s2,s3,s4,s5⟩:=hp.cells;refine Lp (v := .tuple #[noP,.int .i64 150]) (by simp[results,results27,go_sem,s0,s1,s2,s3,s4,s5]) rfl ⟨rfl,xb.trans (hc.below (by rintro b rfl;omega))⟩
theorem Qfq(w:World)(k:Int)(k1:1<=k)(k2:k<=32)(s:BA)(hs:s.size<=281474976710656)(P:PV)(hd:dec s.data.toList=some P)(hk:P.k=k) :
  Calls prog 27 #[.int .i64 k,.string s] w fun e w' => ∃sa sb sc da db dc,e = .returned (.tuple #[.agg #[.int .i64 P.kd,.int .i64 k,.int .u64 (P.old:Int),.int .u64 (P.size:Int),.slice sa P.S.length sc,.slice da P.D.length dc],.int .i64 0])∧RdF w' sa sb sc da db dc P∧Zb w w':=by
 have hw:=(J3 hd).1;obtain⟨kd,kk,xB,xA,S,D⟩:=P;simp only at hk;subst hk;obtain⟨W0,xD,h6,xE,_⟩:=Yk w (.int .i64 0) (.int .i64 0) (.int .u64 0) (.int .u64 0) (.slice none 0 0) (.slice none 0 0);have HX:Hid (∀F,Zb W0 F->Six F w.heap.size (.int .i64 0) (.int .i64 0) (.int .u64 0) (.int .u64 0) (.slice none 0 0) (.slice none 0 0)∧Zb w F):=fun F hF=>⟨h6.next hF,Qa xE hF⟩
 have HZ:Hid (w.heap.size<W0.heap.size):=h6.lt;have HC:Hid (∀W,Calls prog 61 #[.int .i64 kk] W fun e w'=>e = .returned (.int .i64 0)∧w'=W):=fun W=>by
  have hc:chk kk=0:=by rw[chk,Le (by omega)]
  rw[<-hc];exact QV W kk
 have HD:Hid (∀W,Calls prog 25 #[.string s] W fun e w' => ∃sa sc da dc,e = .returned (.tuple #[.agg #[.int .i64 kd,.int .i64 kk,.int .u64 (xB:Int),.int .u64 (xA:Int),.slice sa S.length sc,.slice da D.length dc],.int .i64 0])∧Hid (Cv.Own w' W.heap.size (.slice sa S.length sc) S∧Qk w' W.heap.size (.slice da D.length dc) D)∧Zb W w'):=fun W=>(UP W s hs _ hd).mono fun e w' ⟨sa,sb,sc,da,db,dc,h1,_,h2,h3⟩=>⟨sa,sc,da,dc,h1,h2,h3⟩
 have HW:=Qe hw;clear h6 xE hs hd k1 k2 hw
 go_enter func27,ntmps27
 go_upto_region 1 with (fail)
 try rw[xD]
 clear xD
 go_upto_region 5 with (first
  | (go_at_call 61;with_reducible refine(HC.out _).mono ?_;rintro e w1 ⟨rfl,rfl⟩)
  | (go_at_call 25;with_reducible refine(HD.out _).mono ?_;rintro e w2 ⟨sa,sc,da,dc,rfl,HO,xF⟩))
 obtain⟨F,hF,h7,xC,_⟩:=Yk w2 (.int .i64 kd) (.int .i64 kk) (.int .u64 (xB:Int)) (.int .u64 (xA:Int)) (.slice sa S.length sc) (.slice da D.length dc)
 try rw[hF]
 clear hF;obtain⟨m0,m1,m2,m3,m4,m5⟩:=h7.cells;obtain⟨x6,xb⟩:=HX.out _ (Qa xF xC);obtain⟨c0,c1,c2,c3,c4,c5⟩:=x6.cells;have fz:=x6.fz;have hp:=x6.put (.int .i64 kd) (.int .i64 kk) (.int .u64 (xB:Int)) (.int .u64 (xA:Int)) (.slice sa S.length sc) (.slice da D.length dc);have hc:=QQ F w.heap.size (.int .i64 kd) (.int .i64 kk) (.int .u64 (xB:Int)) (.int .u64 (xA:Int)) (.slice sa S.length sc) (.slice da D.length dc);have hr : ∃sb db,RdF (QZ F w.heap.size (.int .i64 kd) (.int .i64 kk) (.int .u64 (xB:Int)) (.int .u64 (xA:Int)) (.slice sa S.length sc) (.slice da D.length dc)) sa sb sc da db dc ⟨kd,kk,xB,xA,S,D⟩:=by
  obtain⟨o1,o2⟩:=HO.out;have hz:=HZ.out;have z1:Cv.Own (QZ F w.heap.size (.int .i64 kd) (.int .i64 kk) (.int .u64 (xB:Int)) (.int .u64 (xA:Int)) (.slice sa S.length sc) (.slice da D.length dc)) w1.heap.size (.slice sa S.length sc) S:=Qi (Cv.Uc o1 xC) fun g _ hB=>hc.block g (by show ¬_=_;omega)
  have z2:Qk (QZ F w.heap.size (.int .i64 kd) (.int .i64 kk) (.int .u64 (xB:Int)) (.int .u64 (xA:Int)) (.slice sa S.length sc) (.slice da D.length dc)) w1.heap.size (.slice da D.length dc) D:=Qi (Qm o2 xC (Ld _)) fun g _ hB=>hc.block g (by show ¬_=_;omega)
  obtain⟨a1,b1,c1,a2,b2,c2,e1,e2,r⟩:=Qg0 HW.out z1 z2;injection e1 with g1 _ g3
  injection e2 with g4 _ g6
  subst g1 g3 g4 g6;exact⟨b1,b2,r⟩
 unfold QZ at hp hc hr;have HB:=Qe (Lo hp (Lo hc (Lo xb hr)));clear hp hc xb x6 xF xC h7 hr HO
 repeat go_step
 obtain⟨hp,hc,xb,sb,db,hr⟩:=HB.out;obtain⟨s0,s1,s2,s3,s4,s5⟩:=hp.cells;refine Lp (v := .tuple #[.agg #[.int .i64 kd,.int .i64 kk,.int .u64 (xB:Int),.int .u64 (xA:Int),.slice sa S.length sc,.slice da D.length dc],.int .i64 0]) (by simp[results,results27,go_sem,s0,s1,s2,s3,s4,s5]) rfl ⟨sa,sb,sc,da,db,dc,rfl,hr,xb.trans (hc.below (by rintro b rfl;omega))⟩
def cK(l:List (Nat×BA)):List Value:=l.flatMap fun c=>[.int .u64 (c.1:Int),.string c.2]
theorem Qgx(c:Nat×BA)(l:List (Nat×BA)):cK (c::l) = .int .u64 (c.1:Int) :: .string c.2::cK l:=rfl
theorem Qm3(l:List (Nat×BA)):(cK l).length=2*l.length:=by
 induction l with
 | nil=>rfl
 | cons c l ih=>rw[Qgx,Lt,Lt,Lt,ih];omega
abbrev noC:Nat×BA:=(0,ByteArray.empty)
theorem QmH(l:List (Nat×BA)) : ∀j,j<l.length->(cK l)[j*2]? = some (.int .u64 ((l.getD j noC).1:Int))∧(cK l)[j*2+1]? = some (.string (l.getD j noC).2):=by
 induction l with
 | nil=>intro j hj;exact absurd hj (by simp)
 | cons c l ih =>
  intro j hj
  cases j with
  | zero=>exact⟨rfl,rfl⟩
  | succ j =>
   have:=ih j (by simpa using hj)
   rw[Qgx,show(j+1)*2=j*2+1+1 by omega,Nr,Nr,Nr,Nr,I4]
   exact this
structure RdK(w:World)(ao:OA)(b off n:Nat)(l:List (Nat×BA)):Prop where
 hl:l.length=n
 ptr:0<n->ao=some ⟨b,off,none⟩
 rng:w.rangeAt b off (cK l)
 sz : ∀c∈l,c.2.size<=9223372036854775807
theorem RdK.at{w:World}{ao:OA}{b off n:Nat}{l:List (Nat×BA)}(h:RdK w ao b off n l){j:Nat}(hj:j<n):w.cell? ⟨b,off+j*2,none⟩=some (.int .u64 ((l.getD j noC).1:Int))∧w.cell? ⟨b,off+j*2+1,none⟩=some (.string (l.getD j noC).2):=by
 have:=QmH l j (by rw[h.hl];exact hj)
 exact⟨h.rng _ _ this.1,by rw[Ik];exact h.rng _ _ this.2⟩
theorem RdK.lt{w:World}{ao:OA}{b off n:Nat}{l:List (Nat×BA)}(h:RdK w ao b off n l)(h0:0<n):b<w.heap.size:=Lh w _ (h.at h0).1
theorem RdK.next{w W:World}{ao:OA}{b off n:Nat}{l:List (Nat×BA)}(h:RdK w ao b off n l)(hb:Zb w W):RdK W ao b off n l:=by
 refine⟨h.hl,h.ptr,?_,h.sz⟩
 by_cases h0:0<n
 ·exact Ql hb (h.lt h0) h.rng
 ·have:l=[]:=List.length_eq_zero_iff.1 (by rw[h.hl];omega)
  rw[this];intro j v hv;cases hv
theorem QlY(w:World)(ao:OA):RdK w ao 0 0 0 []:=⟨rfl,fun h=>absurd h (NG 0),(fun j v h=>by cases h),(fun c h=>by cases h)⟩
theorem QlZ(w:World)(i:Nat)(s:BA)(hs:s.size<=9223372036854775807):RdK (w.alloc (.cells #[.int .u64 (i:Int),.string s] 38)) (some ⟨w.heap.size,0,none⟩) w.heap.size 0 1 [(i,s)] :=
 ⟨rfl,fun _=>rfl,Qu w [.int .u64 (i:Int),.string s] 38,fun c hc=>by rw[List.mem_singleton.1 hc];exact hs⟩
abbrev ixs(l:List (Nat×BA)):List Nat:=l.map Prod.fst
abbrev vls(l:List (Nat×BA)):LB:=l.map Prod.snd
theorem JK(l:List (Nat×BA))(j:Nat):(ixs l).getD j 0=(l.getD j noC).1:=by
 rw[La,La,No]
 cases l[j]? <;> rfl
theorem QjB{S:List Nat}{l:List (Nat×BA)}(h:S.length=l.length)(he : ∀j,j<S.length->S.getD j 0=(l.getD j noC).1):S=ixs l:=by
 refine List.ext_getElem (by rw[h,Lx]) fun j h1 h2 => ?_
 have:=he j h1;rw[<-JK,La,La,Lc h1,Lc h2] at this;exact this
theorem Qht(w:World)(sa:OA)(sb so sc:Nat)(S:List Nat)(hs:RdU w sa sb so S.length S)(hm:S.length<=17592186044416)(ca:OA)(cb co cn cc:Nat)(l:List (Nat×BA))(hc:RdK w ca cb co cn l)(r:Bool)(hr:decide (S=ixs l)=r) :
  Zr 62 #[.slice sa S.length sc,.slice ca cn cc] w (.bool r):=by
 have xA:=hc.hl
 by_cases hl:S.length=cn
 ·have HR:Hid (∀W,Zb w W->RdU W sa sb so S.length S∧RdK W ca cb co cn l):=fun W hb=>⟨hs.next hb,hc.next hb⟩
  have HE:Hid (decide (S=ixs l)=r∧S.length=l.length):=⟨hr,by omega⟩
  have xB:(S.length:Int)<=17592186044416:=by omega
  clear hs hc hr hm;obtain⟨n,hn⟩:=Ze S.length;rw[hn] at hl xB HR ⊢;have HN:=Qe hn;clear hn xA;subst hl
  go_enter func62,ntmps62;go_wp2
  go_loopg [14] n (fun g i wr => ∃k:Nat,k<=n∧g=n - k∧i = .int .i64 (k:Int)∧(∀j,j<k->S.getD j 0=(l.getD j noC).1)∧Zb w wr)
  case atStart=>go_light;exact⟨0,Ll _,rfl,rfl,fun j hj=>absurd hj (Nu j),Lb _ _⟩
  case round =>
   obtain⟨k,hk,rfl,rfl,he,hb⟩:=hrel;have xD:(0:Int)<=(k:Int):=Lf _
   by_cases hlt:k<n
   ·obtain⟨r1,r2⟩:=HR.out wr hb;obtain rfl:=r1.ptr (by omega)
    obtain rfl:=r2.ptr (by omega)
    have c1:=r1.at hlt;have c2:=(r2.at hlt).1;have hz:(k:Int)<(n:Int):=by omega
    obtain⟨x,hx⟩:=Ze (S.getD k 0);obtain⟨y,hy⟩:=Ze ((l.getD k noC).1);rw[hx] at c1;rw[hy] at c2;have HX:Hid (S.getD k 0=x∧(l.getD k noC).1=y):=⟨hx,hy⟩;have H0:Hid ((∀j,j<k->S.getD j 0=(l.getD j noC).1)∧Zb w wr):=⟨he,hb⟩;clear hx hy r1 r2 he hb
    by_cases hxy:y=x
    ·subst hxy;go_wp2
     go_roundg (n - (k+1))
     case rel =>
      go_light;refine⟨k+1,by omega,rfl,by go_num,fun j hj => ?_,H0.out.2⟩
      by_cases hjk:j=k
      ·subst hjk;rw[HX.out.1,HX.out.2]
      ·exact H0.out.1 j (by omega)
     case measure=>go_light;omega
    ·have xC : ¬(y:Int)=(x:Int):=by omega
     have xE:((y:Int) == (x:Int))=false:=by simpa using xC
     have HF:Hid (false=r):=by
      rw[<-HE.out.1];refine(Lj fun he=>hxy ?_).symm
      have:=LU (fun t=>List.getD t k 0) he
      simp only[JK] at this;rw[HX.out.1,HX.out.2] at this;exact this.symm
     go_wp2
     go_ret
     obtain rfl:=HF.out;exact⟨rfl,H0.out.2⟩
   ·have hz : ¬(k:Int)<(n:Int):=by omega
    have HF:Hid (true=r):=by
     rw[<-HE.out.1];exact(Ln (QjB HE.out.2 fun j hj=>he j (by have:=HN.out;omega))).symm
    go_wp2
    go_ret
    obtain rfl:=HF.out;exact⟨rfl,hb⟩
 ·have HF:false=r:=by
   rw[<-hr];exact(Lj fun he=>hl (by rw[he,Lx,xA])).symm
  subst HF;have hz : ¬(S.length:Int)=(cn:Int):=by omega
  have xF:((S.length:Int) == (cn:Int))=false:=by simpa using hz
  clear hs hc hr hm
  go_enter func62,ntmps62;go_wp2
  go_ret
  exact⟨rfl,Lb _ _⟩
theorem QeT(w:World)(kd k:Int)(old size:Nat)(sa:OA)(sb so sc:Nat)(S:List Nat)(hs:RdU w sa sb so S.length S)(hm:S.length<=17592186044416)(da:OA)(dn dc:Nat)(ca:OA)(cb co cn cc:Nat)(l:List (Nat×BA))(hc:RdK w ca cb co cn l)(r:Bool)(hr:decide ((kd=1∨kd=2)∧S=ixs l)=r) :
  Zr 28 #[vP kd k old size (.slice sa S.length sc) (.slice da dn dc),.slice ca cn cc] w (.bool r):=by
 obtain⟨W0,xA,h6,xB,_⟩:=Yk w (.int .i64 kd) (.int .i64 k) (.int .u64 (old:Int)) (.int .u64 (size:Int)) (.slice sa S.length sc) (.slice da dn dc);obtain⟨m0,m1,m2,m3,m4,m5⟩:=h6.cells;have HA:Hid (∀q,decide (S=ixs l)=q->Zr 62 #[.slice sa S.length sc,.slice ca cn cc] W0 (.bool q)):=fun q hq=>Qht W0 sa sb so sc S (hs.next xB) hm ca cb co cn cc l (hc.next xB) q hq
 clear hs hc hm h6;unfold vP
 by_cases h1:kd=1
 ·subst h1;have xC:=HA.out r (by rw[<-hr];simp)
  clear hr HA
  go_enter func28,ntmps28
  go_upto_region 1 with (fail)
  try rw[xA]
  clear xA
  go_wp2_with (go_at_call 62;with_reducible refine xC.mono ?_;rintro e w1 ⟨rfl,xD⟩)
  go_ret
  exact⟨rfl,Qa xB xD⟩
 ·have xE:(kd == 1)=false:=by simpa using h1
  by_cases h2:kd=2
  ·subst h2;have xC:=HA.out r (by rw[<-hr];simp)
   clear hr HA
   go_enter func28,ntmps28
   go_upto_region 1 with (fail)
   try rw[xA]
   clear xA
   go_wp2_with (go_at_call 62;with_reducible refine xC.mono ?_;rintro e w1 ⟨rfl,xD⟩)
   go_ret
   exact⟨rfl,Qa xB xD⟩
  ·have xF:(kd == 2)=false:=by simpa using h2
   obtain rfl:false=r:=by rw[<-hr];exact(Lj fun h=>h.1.elim h1 h2).symm
   clear hr HA
   go_enter func28,ntmps28
   go_upto_region 1 with (fail)
   try rw[xA]
   clear xA;go_wp2
   go_ret
   exact⟨rfl,xB⟩
theorem Qfw(l:List (Nat×BA)){j:Nat}(h:j<l.length):vls (l.take (j+1))=vls (l.take j)++[(l.getD j noC).2]:=by
 unfold vls;rw[Nz,L8,La,Lc h];rfl
theorem Qgq(w:World)(ca:OA)(cb co cn cc:Nat)(l:List (Nat×BA))(hc:RdK w ca cb co cn l)(hm:cn<=8796093021952) :
  Ro 30 #[.slice ca cn cc] w (vls l):=by
 have HR:Hid (∀W,Zb w W->RdK W ca cb co cn l):=fun W hb=>hc.next hb
 have HL:Hid (l.length=cn ∧ ∀c∈l,c.2.size<=9223372036854775807):=⟨hc.hl,hc.sz⟩;have hM:=QjH w cn (by omega)
 have hO:=Qe4 w cn (by omega)
 have xH:(cn:Int)<=8796093021952:=by omega
 have xB:=bal (Lb w.heap.size w) (.cells (madeCells #[.string ByteArray.empty] cn) 9);obtain⟨W0,xD⟩:=Ze (w.alloc (.cells (madeCells #[.string ByteArray.empty] cn) 9));rw[xD] at hM hO xB;have HS:Hid (Qk W0 w.heap.size (.slice (some ⟨w.heap.size,0,none⟩) 0 cn) []∧Zb w W0):=⟨hO,xB⟩;clear hc hm hO xB xD
 go_enter func30,ntmps30;go_wp2
 go_loopg [3,11] cn (fun g v i wr => ∃k:Nat,k<=cn∧g=cn - k∧i = .int .i64 (k:Int)∧Qk wr w.heap.size v (vls (l.take k))∧Zb w wr)
 case atStart=>go_light;exact⟨0,Ll _,rfl,rfl,HS.out.1,HS.out.2⟩
 case round =>
  obtain⟨k,hk,rfl,rfl,ho,hb⟩:=hrel;have xG:(0:Int)<=(k:Int):=Lf _
  by_cases hlt:k<cn
  ·have r2:=HR.out wr hb;obtain rfl:=r2.ptr (by omega)
   obtain⟨c1,c2⟩:=r2.at hlt;have hz:(k:Int)<(cn:Int):=by omega
   have HV:Hid (vls (l.take (k+1))=vls (l.take k)++[(l.getD k noC).2]∧(l.getD k noC).2.size<=9223372036854775807):=⟨Qfw l (by have:=HL.out.1;omega),by
    have xF:k<l.length:=by have:=HL.out.1;omega
    refine HL.out.2 _ ?_
    rw[La,Lc xF];exact LG _⟩
   have xE:Hid ((vls (l.take k)).length<=8796093021952):=by
    show(vls (l.take k)).length<=8796093021952
    rw[Lx,Lq];omega
   obtain⟨x,hx⟩:=Ze ((l.getD k noC).1);obtain⟨y,hy⟩:=Ze ((l.getD k noC).2);rw[hx] at c1;rw[hy] at c2 HV;have H0:=Qe (Lo ho hb);generalize vls (l.take k)=Lk at *;clear hx hy r2 ho hb
   go_upto_region 5 with (fail)
   obtain⟨w5,xA⟩:=Ze (wr.alloc (.cells #[.int .u64 (x:Int),.string y] 38))
   try rw[xA]
   have H5:Hid (Qk w5 w.heap.size u3 Lk∧Zb w w5):=by rw[<-xA];exact⟨Y0 H0.out.1 _,bal H0.out.2 _⟩
   have k5:=((QlZ wr x y HV.out.2).at (j:=0) (by decide)).2
   rw[xA] at k5;simp only[Nat.zero_mul,Nat.add_zero,Nat.zero_add] at k5;clear xA H0 c1 c2
   go_wp2_with (at_builtin;refine QE _ rfl _ _ rfl w.heap.size _ Lk rfl (Y0 H5.out.1 _) (some ⟨w5.heap.size,0,none⟩) w5.heap.size 0 1 [y] rfl (YO w5 y HV.out.2) (fun h=>by cases h) ?c1 ?c2 ?_)
   case c1=>have:=xE.out;simp;omega
   case c2=>have:=H5.out.2.size;simp;omega
   intro v' w3 o3 hb3;have xC:=Qe (Lo o3 ((bal H5.out.2 (.cells #[.string y] 9)).trans hb3));clear o3 hb3;go_wp2
   go_roundg (cn - (k+1))
   case rel=>go_light;exact⟨k+1,by omega,rfl,by go_num,by rw[HV.out.1];exact xC.out.1,xC.out.2⟩
   case measure=>go_light;omega
  ·have hz : ¬(k:Int)<(cn:Int):=by omega
   obtain rfl:k=cn:=by omega
   have HO:=Qe (Lo ho hb);clear ho hb;go_wp2
   go_ret
   refine⟨_,rfl,?_,HO.out.2⟩
   have:=HO.out.1;rw[LD (by have:=HL.out.1;omega)] at this
   exact this
theorem QhW(bs:BA) : ∀(n i:Nat) (r:List UInt8),bs.size - i=n->ByteArray.toList.loop bs i r=r.reverse++bs.data.toList.drop i:=by
 intro n
 induction n with
 | zero =>
  intro i r h;rw[ByteArray.toList.loop,Le (by omega)]
  rw[Nm (by simp;exact(by omega:bs.size<=i)),Na]
 | succ n ih =>
  intro i r h;have hi:i<bs.size:=by omega
  rw[ByteArray.toList.loop,Lm hi,ih (i+1) _ (by omega)]
  have hl:i<bs.data.toList.length:=by simp;exact hi
  rw[LO hl,List.reverse_cons,LH];have:bs.get! i=bs.data.toList[i]:=by
   show bs.data[i]! = _
   have xA:i<bs.data.size:=hi;rw[getElem!_pos bs.data i xA];simp
  rw[this];rfl
theorem QdN(bs:BA):bs.toList=bs.data.toList:=by
 rw[ByteArray.toList,QhW bs bs.size 0 [] rfl];rfl
theorem YZ{x y:BA}(h:x≠y):(x.toList == y.toList)=false:=by
 rw[QdN,QdN];simp only[beq_eq_false_iff_ne,ne_eq];intro e;exact h (Iz (Array.toList_inj.1 e))
theorem Uu{x y:BA}(h:x≠y) : ¬x.toList=y.toList:=fun e=>by
 have:=YZ h;rw[e] at this;simp at this
theorem Qd5{n o:Nat}{d c:BA}(h : ¬(n=o∧d=c)) : ¬n=o∨(n=o∧d≠c):=by
 by_cases h1:n=o
 ·exact .inr ⟨h1,fun h2=>h ⟨h1,h2⟩⟩
 ·exact .inl h1
theorem QdC(w:World)(sa:OA)(sb so sc:Nat)(S:List Nat)(hs:RdU w sa sb so S.length S)(hm:S.length<=17592186044416)(ca:OA)(cb co cn cc:Nat)(l:List (Nat×BA))(hc:RdK w ca cb co cn l)(r:Bool)(hr:decide (S=ixs l)=r) :
  Zr 94 #[.slice sa S.length sc,.slice ca cn cc] w (.bool r):=by
 have xA:=hc.hl
 by_cases hl:S.length=cn
 ·have HR:Hid (∀W,Zb w W->RdU W sa sb so S.length S∧RdK W ca cb co cn l):=fun W hb=>⟨hs.next hb,hc.next hb⟩
  have HE:Hid (decide (S=ixs l)=r∧S.length=l.length):=⟨hr,by omega⟩
  have xB:(S.length:Int)<=17592186044416:=by omega
  clear hs hc hr hm;obtain⟨n,hn⟩:=Ze S.length;rw[hn] at hl xB HR ⊢;have HN:=Qe hn;clear hn xA;subst hl
  go_enter func94,ntmps94;go_wp2
  go_loopg [5] n (fun g i wr => ∃k:Nat,k<=n∧g=n - k∧i = .int .i64 (k:Int)∧(∀j,j<k->S.getD j 0=(l.getD j noC).1)∧Zb w wr)
  case atStart=>go_light;exact⟨0,Ll _,rfl,rfl,fun j hj=>absurd hj (Nu j),Lb _ _⟩
  case round =>
   obtain⟨k,hk,rfl,rfl,he,hb⟩:=hrel;have xD:(0:Int)<=(k:Int):=Lf _
   by_cases hlt:k<n
   ·obtain⟨r1,r2⟩:=HR.out wr hb;obtain rfl:=r1.ptr (by omega)
    obtain rfl:=r2.ptr (by omega)
    have c1:=r1.at hlt;have c2:=(r2.at hlt).1;have hz:(k:Int)<(n:Int):=by omega
    obtain⟨x,hx⟩:=Ze (S.getD k 0);obtain⟨y,hy⟩:=Ze ((l.getD k noC).1);rw[hx] at c1;rw[hy] at c2;have HX:Hid (S.getD k 0=x∧(l.getD k noC).1=y):=⟨hx,hy⟩;have H0:Hid ((∀j,j<k->S.getD j 0=(l.getD j noC).1)∧Zb w wr):=⟨he,hb⟩;clear hx hy r1 r2 he hb
    by_cases hxy:x=y
    ·subst hxy;go_wp2
     go_quiet (fail)
     go_wp2
     go_roundg (n - (k+1))
     case rel =>
      go_light;refine⟨k+1,by omega,rfl,by go_num,fun j hj => ?_,Qd H0.out.2 _⟩
      by_cases hjk:j=k
      ·subst hjk;rw[HX.out.1,HX.out.2]
      ·exact H0.out.1 j (by omega)
     case measure=>go_light;omega
    ·have xC : ¬(x:Int)=(y:Int):=by omega
     have xE:((x:Int) == (y:Int))=false:=by simpa using xC
     have HF:Hid (false=r):=by
      rw[<-HE.out.1];refine(Lj fun he=>hxy ?_).symm
      have:=LU (fun t=>List.getD t k 0) he
      simp only[JK] at this;rw[HX.out.1,HX.out.2] at this;exact this
     go_wp2
     go_quiet (fail)
     go_wp2
     go_ret
     obtain rfl:=HF.out;exact⟨rfl,Qd H0.out.2 _⟩
   ·have hz : ¬(k:Int)<(n:Int):=by omega
    have HF:Hid (true=r):=by
     rw[<-HE.out.1];exact(Ln (QjB HE.out.2 fun j hj=>he j (by have:=HN.out;omega))).symm
    go_wp2
    go_ret
    obtain rfl:=HF.out;exact⟨rfl,hb⟩
 ·have HF:false=r:=by
   rw[<-hr];exact(Lj fun he=>hl (by rw[he,Lx,xA])).symm
  subst HF;have hz : ¬(S.length:Int)=(cn:Int):=by omega
  have xF:((S.length:Int) == (cn:Int))=false:=by simpa using hz
  clear hs hc hr hm
  go_enter func94,ntmps94;go_wp2
  go_ret
  exact⟨rfl,Lb _ _⟩
theorem QaW(w:World)(ca:OA)(cb co cn cc:Nat)(l:List (Nat×BA))(hc:RdK w ca cb co cn l)(hm:cn<=8796093021952) :
  Ro 49 #[.slice ca cn cc] w (vls l):=by
 have HR:Hid (∀W,Zb w W->RdK W ca cb co cn l):=fun W hb=>hc.next hb
 have HL:Hid (l.length=cn ∧ ∀c∈l,c.2.size<=9223372036854775807):=⟨hc.hl,hc.sz⟩;have xE:(cn:Int)<=8796093021952:=by omega
 clear hc hm
 go_enter func49,ntmps49;go_wp2
 go_loopg [3,4] cn (fun g v i wr => ∃k:Nat,k<=cn∧g=cn - k∧i = .int .i64 (k:Int)∧Qk wr w.heap.size v (vls (l.take k))∧Zb w wr)
 case atStart=>go_light;exact⟨0,Ll _,rfl,rfl,⟨rfl,.inl ⟨rfl,rfl⟩⟩,Lb _ _⟩
 case round =>
  obtain⟨k,hk,rfl,rfl,ho,hb⟩:=hrel;have xD:(0:Int)<=(k:Int):=Lf _
  by_cases hlt:k<cn
  ·have r2:=HR.out wr hb;obtain rfl:=r2.ptr (by omega)
   obtain⟨c1,c2⟩:=r2.at hlt;have hz:(k:Int)<(cn:Int):=by omega
   have HV:Hid (vls (l.take (k+1))=vls (l.take k)++[(l.getD k noC).2]∧(l.getD k noC).2.size<=9223372036854775807):=⟨Qfw l (by have:=HL.out.1;omega),by
    have xC:k<l.length:=by have:=HL.out.1;omega
    refine HL.out.2 _ ?_
    rw[La,Lc xC];exact LG _⟩
   have xB:Hid ((vls (l.take k)).length<=8796093021952):=by
    show(vls (l.take k)).length<=8796093021952
    rw[Lx,Lq];omega
   obtain⟨y,hy⟩:=Ze ((l.getD k noC).2);rw[hy] at c2 HV;have H0:=Qe (Lo ho hb);generalize vls (l.take k)=Lk at *;clear hy r2 ho hb c1
   go_wp2_with (at_builtin;refine QE _ rfl _ _ rfl w.heap.size _ Lk rfl (Y0 H0.out.1 _) (some ⟨wr.heap.size,0,none⟩) wr.heap.size 0 1 [y] rfl (YO wr y HV.out.2) (fun h=>by cases h) ?c1 ?c2 ?_)
   case c1=>have:=xB.out;simp;omega
   case c2=>have:=H0.out.2.size;simp;omega
   intro v' w3 o3 hb3;have xA:=Qe (Lo o3 ((bal H0.out.2 (.cells #[.string y] 9)).trans hb3));clear o3 hb3;go_wp2
   go_roundg (cn - (k+1))
   case rel=>go_light;exact⟨k+1,by omega,rfl,by go_num,by rw[HV.out.1];exact xA.out.1,xA.out.2⟩
   case measure=>go_light;omega
  ·have hz : ¬(k:Int)<(cn:Int):=by omega
   obtain rfl:k=cn:=by omega
   have HO:=Qe (Lo ho hb);clear ho hb;go_wp2
   go_ret
   refine⟨_,rfl,?_,HO.out.2⟩
   have:=HO.out.1;rw[LD (by have:=HL.out.1;omega)] at this
   exact this
section
open Cv (RdC zl cU tno)
open Pl (pw)
theorem Rt.drew{w:World}{g n:Nat}{d:BA}(h:Rt w g n d):Rt w.drew g n d:=⟨h.c0,h.c1,h.f0,h.f1⟩
abbrev noR:Value := .agg #[.int .u64 0,.string ⟨#[]⟩]
theorem QO{w W0:World}{kd k:Int}{old size:Nat}{vs vd:Value}(h:(w.alloc (.cells #[.int .i64 kd,.int .i64 k,.int .u64 (old:Int),.int .u64 (size:Int),vs,vd] 55)).alloc (.cells #[.int .u64 0,.string ⟨#[]⟩] 30)=W0) :
  Zb w W0∧Six W0 w.heap.size (.int .i64 kd) (.int .i64 k) (.int .u64 (old:Int)) (.int .u64 (size:Int)) vs vd∧Rt W0 (w.heap.size+1) 0 ⟨#[]⟩∧W0.heap.size=w.heap.size+2:=by
 subst h;refine⟨bal (bal (Lb _ _) _) _,?_,?_,by simp⟩
 ·exact(Q8 w _ _ _ _ _ _).next (bal (Lb _ _) _)
 ·have:=Qea (w.alloc (.cells #[.int .i64 kd,.int .i64 k,.int .u64 (old:Int),.int .u64 (size:Int),vs,vd] 55)) 0 ⟨#[]⟩ 30;rw[LA] at this;exact this
theorem Yr{w:World}{g n:Nat}{d:BA}(h:Rt w g n d)(a:Int)(b:BA) :
  ((w.setCell ⟨g,0,none⟩ (.int .u64 a)).setCell ⟨g,1,none⟩ (.string b)).cell? ⟨g,0,none⟩=some (.int .u64 a)∧((w.setCell ⟨g,0,none⟩ (.int .u64 a)).setCell ⟨g,1,none⟩ (.string b)).cell? ⟨g,1,none⟩=some (.string b)∧ChT (fun x=>x=g) w ((w.setCell ⟨g,0,none⟩ (.int .u64 a)).setCell ⟨g,1,none⟩ (.string b)):=by
 refine⟨?_,?_,((ChT.refl (fun x=>x=g) w).set g 0 _ rfl).set g 1 _ rfl⟩
 ·exact(LJ _ _ _ _ (by simp)).trans (LZ _ _ _ h.c0)
 ·exact LZ _ _ _ ((LJ _ _ _ _ (by simp)).trans h.c1)
def okB(kd k:Int)(old size:Nat)(S:List Nat)(D:LB):Prop:=(kd=2∧(1<=k∧k<=32)∧old=0)∧(Cv.QR size S=0∧fil k (Cv.rstS size S).length D)
instance (kd k:Int) (old size:Nat) (S:List Nat) (D:LB):Decidable (okB kd k old size S D):=by unfold okB;infer_instance
theorem QeC(w:World)(kd k:Int)(old size:Nat)(sa:OA)(sb so ns sc:Nat)(S:List Nat)(hs:RdU w sa sb so ns S)(hns:ns<=8796093022208)(da:OA)(db dO dn dc:Nat)(D:LB)(hr:RdS w da db dO dn D)(hm:dn<=8796093022208)(xa:OA)(xn xc:Nat)(hno : ¬(okB kd k old size S D∧xn=ns)) :
  Zr 64 #[vP kd k old size (.slice sa ns sc) (.slice da dn dc),.slice xa xn xc] w (.tuple #[noR,.int .i64 150]):=by
 have hl:=hs.hl;have xH:=hr.hl;subst xH;obtain⟨r1,xD⟩:=Ze (decide (kd=2∧(1<=k∧k<=32)∧old=0))
 obtain⟨r2,xE⟩:=Ze (decide (Cv.QR size S=0∧fil k (Cv.rstS size S).length D))
 have HI:Hid (∀W,Zr 118 #[vP kd k old size (.slice sa ns sc) (.slice da D.length dc)] W (.bool r1)):=fun W=>QbY W kd k old size sa ns sc da D.length dc r1 xD
 have HF:Hr w 119 #[vP kd k old size (.slice sa ns sc) (.slice da D.length dc)] (.bool r2):=fun W hb=>Jg W kd k old size sa sb so ns sc S (hs.next hb) hns da db dO dc D (hr.next hb (Ld _)) hm _ rfl _ rfl r2 xE
 have HN:Hid (r1=true->r2=true -> ¬xn=ns):=fun h1 h2 h3=>hno ⟨⟨Ij (xD.trans h1),Ij (xE.trans h2)⟩,h3⟩
 obtain⟨W0,xG⟩:=Ze ((w.alloc (.cells #[.int .i64 kd,.int .i64 k,.int .u64 (old:Int),.int .u64 (size:Int),.slice sa ns sc,.slice da D.length dc] 55)).alloc (.cells #[.int .u64 0,.string ⟨#[]⟩] 30));obtain⟨hb,h6,xF,hz⟩:=QO xG;obtain⟨c0,c1,c2,c3,c4,c5⟩:=h6.cells;have HR:=Qe (Lo xF hz);have H6:=Qe h6;clear hs hr hm hno xD xE h6 xF hz
 cases r1 with
 | false =>
  clear HF HN
  go_enter func64,ntmps64
  go_wp2_with (go_at_call 118;with_reducible refine(HI.out _).mono ?_;rintro e w1 ⟨rfl,xA⟩;have hR:=HR.out.1.below xA (by rw[HR.out.2];omega);have k0:=hR.c0;have k1:=hR.c1;have f0:=hR.f0;have f1:=hR.f1)
  obtain⟨s0,s1,xC⟩:=Yr hR 0 ⟨#[]⟩;refine Lp (v := .tuple #[noR,.int .i64 150]) (by simp[results,results64,go_sem,s0,s1]) rfl ⟨rfl,?_⟩
  exact(Qa hb xA).trans (xC.below (by rintro b rfl;omega))
 | true =>
  cases r2 with
  | false =>
   clear HN
   go_enter func64,ntmps64
   go_wp2_with (first
    | (go_at_call 118;with_reducible refine(HI.out _).mono ?_;rintro e w1 ⟨rfl,xA⟩;obtain⟨d0,d1,d2,d3,d4,d5⟩:=(H6.out.next xA).cells)
    | (go_at_call 119;with_reducible refine(HF.out _ (Qa hb xA)).mono ?_;rintro e w2 ⟨rfl,xB⟩;have hR:=HR.out.1.below (Qa xA xB) (by rw[HR.out.2];omega);have k0:=hR.c0;have k1:=hR.c1;have f0:=hR.f0;have f1:=hR.f1))
   obtain⟨s0,s1,xC⟩:=Yr hR 0 ⟨#[]⟩;refine Lp (v := .tuple #[noR,.int .i64 150]) (by simp[results,results64,go_sem,s0,s1]) rfl ⟨rfl,?_⟩
   exact(Qa (Qa hb xA) xB).trans (xC.below (by rintro b rfl;omega))
  | true =>
   have xI:=HN.out rfl rfl;have hz : ¬(xn:Int)=(ns:Int):=by omega
   clear HN xI
   go_enter func64,ntmps64
   go_wp2_with (first
    | (go_at_call 118;with_reducible refine(HI.out _).mono ?_;rintro e w1 ⟨rfl,xA⟩;obtain⟨d0,d1,d2,d3,d4,d5⟩:=(H6.out.next xA).cells)
    | (go_at_call 119;with_reducible refine(HF.out _ (Qa hb xA)).mono ?_;rintro e w2 ⟨rfl,xB⟩;have hR:=HR.out.1.below (Qa xA xB) (by rw[HR.out.2];omega);have k0:=hR.c0;have k1:=hR.c1;have f0:=hR.f0;have f1:=hR.f1;obtain⟨g0,g1,g2,g3,g4,g5⟩:=(H6.out.next (Qa xA xB)).cells))
   obtain⟨s0,s1,xC⟩:=Yr hR 0 ⟨#[]⟩;refine Lp (v := .tuple #[noR,.int .i64 150]) (by simp[results,results64,go_sem,s0,s1]) rfl ⟨rfl,?_⟩
   exact(Qa (Qa hb xA) xB).trans (xC.below (by rintro b rfl;omega))
theorem Qby(w:World)(k:Int)(size:Nat)(sa:OA)(sb so sc:Nat)(S:List Nat)(X:LB)(hs:RdU w sa sb so X.length S)(hns:X.length<=8796093022208)(da:OA)(db dO dc:Nat)(D:LB)(hr:RdS w da db dO D.length D)(hm:D.length<=8796093022208)(xa:OA)(xb xo xc:Nat)(hx:RdS w xa xb xo X.length X)(hok:okB 2 k 0 size S D)(hlong : ¬ ∀s∈X,s.size<=1048576) :
  Zr 64 #[vP 2 k 0 size (.slice sa X.length sc) (.slice da D.length dc),.slice xa X.length xc] w (.tuple #[noR,.int .i64 100]):=by
 have HI:Hid (∀W,Zr 118 #[vP 2 k 0 size (.slice sa X.length sc) (.slice da D.length dc)] W (.bool true)):=fun W=>QbY W 2 k 0 size sa X.length sc da D.length dc true (Ln hok.1)
 have HF:Hr w 119 #[vP 2 k 0 size (.slice sa X.length sc) (.slice da D.length dc)] (.bool true):=fun W hb=>Jg W 2 k 0 size sa sb so X.length sc S (hs.next hb) hns da db dO dc D (hr.next hb (Ld _)) hm _ rfl _ rfl true (Ln hok.2)
 have HX:Hid (∀W,Zb w W->RdS W xa xb xo X.length X):=fun W hb=>hx.next hb (Ld _)
 obtain⟨W0,xF⟩:=Ze ((w.alloc (.cells #[.int .i64 2,.int .i64 k,.int .u64 ((0:Nat):Int),.int .u64 (size:Int),.slice sa X.length sc,.slice da D.length dc] 55)).alloc (.cells #[.int .u64 0,.string ⟨#[]⟩] 30));obtain⟨hb,h6,xE,hz⟩:=QO xF;rw[show((0:Nat):Int)=0 from rfl] at xF h6
 obtain⟨c0,c1,c2,c3,c4,c5⟩:=h6.cells;have HR:=Qe (Lo xE hz);have H6:=Qe h6;have HN:=Qe hlong;have xK:(X.length:Int)<=8796093022208:=by omega
 clear hs hr hm hok h6 xE hz hx hlong;unfold vP at HI HF;rw[show((0:Nat):Int)=0 from rfl] at HI HF
 unfold vP;rw[show((0:Nat):Int)=0 from rfl]
 go_enter func64,ntmps64
 go_upto_region 3 with (first
  | (go_at_call 118;with_reducible refine(HI.out _).mono ?_;rintro e w1 ⟨rfl,xA⟩;obtain⟨d0,d1,d2,d3,d4,d5⟩:=(H6.out.next xA).cells)
  | (go_at_call 119;with_reducible refine(HF.out _ (Qa hb xA)).mono ?_;rintro e w2 ⟨rfl,xC⟩;have hR:=HR.out.1.below (Qa xA xC) (by rw[HR.out.2];omega);have k0:=hR.c0;have k1:=hR.c1;have f0:=hR.f0;have f1:=hR.f1;obtain⟨g0,g1,g2,g3,g4,g5⟩:=(H6.out.next (Qa xA xC)).cells))
 have xG:=Qa (Qa hb xA) xC;clear hb xA xC c0 c1 c2 c3 c4 c5 d0 d1 d2 d3 d4 d5 HI HF;go_wp2
 go_loopg [36] X.length (fun g i wr => ∃j:Nat,j<=X.length∧g=X.length - j∧i = .int .i64 (j:Int)∧(∀t,t<j->(X.getD t ByteArray.empty).size<=1048576)∧w2=wr)
 case atStart=>go_light;exact⟨0,Ll _,rfl,rfl,fun t ht=>absurd ht (Nu _),rfl⟩
 case round =>
  obtain⟨j,hj,rfl,rfl,xB,rfl⟩:=hrel
  by_cases hlt:j<X.length
  ·have hz:(j:Int)<(X.length:Int):=by omega
   have xL:(0:Int)<=(j:Int):=Lf _;have xD:=HX.out w2 xG;obtain rfl:=xD.ptr (by omega)
   have cj:=xD.at hlt;obtain⟨d,hd⟩:=Ze (X.getD j ByteArray.empty);rw[hd] at cj
   by_cases hk:d.size<=1048576
   ·have xH:Hid (∀t,t<j+1->(X.getD t ByteArray.empty).size<=1048576):=fun t ht=>by
     rcases NB (NL ht) with hx|rfl
     ·exact xB t hx
     ·rw[hd];exact hk
    have xJ : ¬(1048576:Int)<(d.size:Int):=by omega
    clear hd xB xD hk;go_wp2
    go_roundg (X.length - (j+1))
    case rel=>go_light;exact⟨j+1,by omega,rfl,by go_num,xH.out,rfl⟩
    case measure=>go_light;omega
   ·have xJ:(1048576:Int)<(d.size:Int):=by omega
    clear hd xB xD hk;go_wp2;obtain⟨s0,s1,xI⟩:=Yr hR 0 ⟨#[]⟩;refine Lp (v := .tuple #[noR,.int .i64 100]) (by simp[results,results64,go_sem,s0,s1]) rfl ⟨rfl,?_⟩
    exact xG.trans (xI.below (by rintro b rfl;omega))
  ·exfalso
   refine HN.out fun s hs => ?_
   obtain⟨t,ht,rfl⟩:=LS hs;have:=xB t (by omega)
   rwa [La,Lc ht] at this
end
end Go.Proofs.YtdocjikpcbmcgaaGreatDoor
