/- Own work. -/
import Derived.Test.YtdocjikpcbmcgaaGreatDoorQn20
set_option maxRecDepth 100000
set_option maxHeartbeats 4000000
namespace Go.Proofs.YtdocjikpcbmcgaaGreatDoor
open Go.RowKit
attribute [local go_sem ↓] Go.wp_at_zero Go.wp_at_succ
open Go.Proofs.Tryz
theorem Qej(bs:BA) : ∀(n i:Nat) (r:List UInt8),bs.size - i=n->ByteArray.toList.loop bs i r=r.reverse++bs.data.toList.drop i:=by
 intro n
 induction n with
 | zero =>
  intro i r h;rw[ByteArray.toList.loop,Le (by omega)]
  rw[Nm (by simp;exact(by omega:bs.size<=i)),Na]
 | succ n ih =>
  intro i r h;have hi:i<bs.size:=by omega
  rw[ByteArray.toList.loop,Lm hi,ih (i+1) _ (by omega)]
  have hl:i<bs.data.toList.length:=by simp;exact hi
  rw[LO hl,List.reverse_cons,LH];have:bs.get! i=bs.data.toList[i]:=by
   show bs.data[i]! = _
   have xA:i<bs.data.size:=hi;rw[getElem!_pos bs.data i xA];simp
  rw[this];rfl
theorem QcD(bs:BA):bs.toList=bs.data.toList:=by
 rw[ByteArray.toList,Qej bs bs.size 0 [] rfl];rfl
theorem Qk2{x y:BA}(h:x≠y):(x.toList == y.toList)=false:=by
 rw[QcD,QcD];simp only[beq_eq_false_iff_ne,ne_eq];intro e;exact h (Iz (Array.toList_inj.1 e))
theorem Ql0{w:World}{s:BA}{e:Ending}{w':World}(h:RdQ w s e w') : ∃(kd k old size:Int) (sa:OA) (sl sc:Nat) (da:OA) (dl dc:Nat) (b:Bool),e = .returned (.tuple #[.agg #[.int .i64 kd,.int .i64 k,.int .u64 old,.int .u64 size,.slice sa sl sc,.slice da dl dc],.bool b])∧Zb w w' ∧
  ((b=false∧dec s.data.toList=none)∨(b=true ∧ ∃Q sb db,kd=Q.kd∧k=Q.k∧old=(Q.old:Int)∧size=(Q.size:Int)∧sl=Q.S.length∧dl=Q.D.length∧RdPC w' sa sb 0 sc da db 0 dc Q∧(Cv.Own w' w.heap.size (.slice sa Q.S.length sc) Q.S∧Qk w' w.heap.size (.slice da Q.D.length dc) Q.D)∧(∀P,dec s.data.toList=some P->Q=P))):=by
 rcases h with ⟨kd,k,old,size,sa,sl,sc,da,dl,dc,rfl,h1,h2⟩|⟨Q,sa,sb,sc,da,db,dc,rfl,h1,ho,h2,h3⟩
 ·exact⟨kd,k,old,size,sa,sl,sc,da,dl,dc,false,rfl,h2,.inl ⟨rfl,h1⟩⟩
 ·exact⟨Q.kd,Q.k,Q.old,Q.size,sa,_,sc,da,_,dc,true,rfl,h3,.inr ⟨rfl,Q,sb,db,rfl,rfl,rfl,rfl,rfl,rfl,h1,ho,h2⟩⟩
def DeQ(w:World)(s:BA)(e:Ending)(w':World):Prop :=
 (dec s.data.toList=none∧e = .returned (.tuple #[.agg #[.int .i64 0,.int .i64 0,.int .u64 0,.int .u64 0,.slice none 0 0,.slice none 0 0],.int .i64 140])∧Zb w w') ∨
 (∃P sa sb sc da db dc,dec s.data.toList=some P∧e = .returned (.tuple #[pvP P sa sc da dc,.int .i64 0])∧RdPC w' sa sb 0 sc da db 0 dc P∧Zb w w')
theorem Qck(s:BA)(hr : ∀w,Calls prog 84 #[.string s] w (RdQ w s))(w:World):Calls prog 39 #[.string s] w (DeQ w s):=by
 have HR:Hid (∀F,Calls prog 84 #[.string s] F fun e w' => ∃(kd k old size:Int) (sa:OA) (sl sc:Nat) (da:OA) (dl dc:Nat) (b:Bool),e = .returned (.tuple #[.agg #[.int .i64 kd,.int .i64 k,.int .u64 old,.int .u64 size,.slice sa sl sc,.slice da dl dc],.bool b])∧Zb F w'∧Hid ((b=false∧dec s.data.toList=none)∨(b=true ∧ ∃Q sb db,kd=Q.kd∧k=Q.k∧old=(Q.old:Int)∧size=(Q.size:Int)∧sl=Q.S.length∧dl=Q.D.length∧RdPC w' sa sb 0 sc da db 0 dc Q∧(Cv.Own w' F.heap.size (.slice sa Q.S.length sc) Q.S∧Qk w' F.heap.size (.slice da Q.D.length dc) Q.D)∧(∀P,dec s.data.toList=some P->Q=P)))):=fun F=>(hr F).mono fun _ _ h=>Ql0 h
 obtain⟨W0,xI,h6,xJ,_⟩:=Yk w (.int .i64 0) (.int .i64 0) (.int .u64 0) (.int .u64 0) (.slice none 0 0) (.slice none 0 0);have HX:Hid (∀F,Zb W0 F->Six F w.heap.size (.int .i64 0) (.int .i64 0) (.int .u64 0) (.int .u64 0) (.slice none 0 0) (.slice none 0 0)∧Zb w F):=fun F hF=>⟨h6.next hF,Qa xJ hF⟩
 have HW:Hid (w.heap.size<W0.heap.size):=h6.lt;clear hr h6 xJ
 go_enter func39,ntmps39
 go_upto_region 1 with (fail)
 try rw[xI]
 clear xI
 go_upto_region 2 with (go_at_call 84;with_reducible refine(HR.out _).mono ?_;rintro x w1 ⟨kd,k,old,size,sa,sl,sc,da,dl,dc,b,rfl,xF,HQ⟩)
 obtain⟨F,hF,h7,xA,_⟩:=Yk w1 (.int .i64 kd) (.int .i64 k) (.int .u64 old) (.int .u64 size) (.slice sa sl sc) (.slice da dl dc)
 try rw[hF]
 clear hF HR;have xD:=Qa xF xA;obtain⟨x6,xb⟩:=HX.out _ xD;obtain⟨c0,c1,c2,c3,c4,c5⟩:=x6.cells;have fz:=x6.fz
 rcases HQ.out with ⟨rfl,hn⟩|⟨rfl,Q,sb,db,rfl,rfl,rfl,rfl,rfl,rfl,rq,⟨ow1,ow2⟩,hq⟩
 ·have hp:=x6.put (.int .i64 0) (.int .i64 0) (.int .u64 0) (.int .u64 0) (.slice none 0 0) (.slice none 0 0);have hc:=QQ F w.heap.size (.int .i64 0) (.int .i64 0) (.int .u64 0) (.int .u64 0) (.slice none 0 0) (.slice none 0 0);unfold QZ at hp hc;have HN:=Qg hn;have HB:Hid (Zb w F):=xb;clear HQ hn x6 xb xF xA xD h7;go_wp2;obtain⟨s0,s1,s2,s3,s4,s5⟩:=hp.cells;refine Lp (v := .tuple #[.agg #[.int .i64 0,.int .i64 0,.int .u64 0,.int .u64 0,.slice none 0 0,.slice none 0 0],.int .i64 140]) (by simp[results,results39,go_sem,s0,s1,s2,s3,s4,s5]) rfl ?_
  exact .inl ⟨HN.out,rfl,HB.out.trans (hc.below (by rintro b rfl;omega))⟩
 ·have HE:=Qd3 F sa sb 0 sc da db 0 dc Q (rq.next xA);simp only[pvP,pv6] at HE;obtain⟨m0,m1,m2,m3,m4,m5⟩:=h7.cells;have HY:Hid (∀G,Zb F G->RdPC G sa sb 0 sc da db 0 dc Q∧Six G w1.heap.size (.int .i64 Q.kd) (.int .i64 Q.k) (.int .u64 (Q.old:Int)) (.int .u64 (Q.size:Int)) (.slice sa Q.S.length sc) (.slice da Q.D.length dc)∧Zb W0 G∧Cv.Own G W0.heap.size (.slice sa Q.S.length sc) Q.S∧Qk G W0.heap.size (.slice da Q.D.length dc) Q.D):=fun G hG=>⟨(rq.next xA).next hG,h7.next hG,Qa xD hG,Cv.Uc (Cv.Uc ow1 xA) hG,Qm (Qm ow2 xA (Ld _)) hG (Ld _)⟩
  have HD:=Qg hq;clear HQ hq rq ow1 ow2 h7 x6 xb xF xA xD c0 c1 c2 c3 c4 c5 fz
  go_upto_region 5 with (go_at_call 85;with_reducible refine HE.mono ?_;rintro x w3 ⟨rfl,xG⟩)
  obtain⟨y1,y2,y3,y4,y5⟩:=HY.out _ xG;obtain⟨x6,xb⟩:=HX.out _ y3;obtain⟨c0,c1,c2,c3,c4,c5⟩:=x6.cells;have fz:=x6.fz;have HB:Hid (Zb w w3):=xb;clear m0 m1 m2 m3 m4 m5 HE xb
  by_cases hgd:Y7 Q∧encS Q=s
  ·obtain⟨hw,xE⟩:=hgd;have xH:encE Q=0:=by rw[encE,Lm hw]
   have xK:dec s.data.toList=some Q:=by
    have h1:=Qle hw;rw[encS,Lm hw] at xE;rw[<-xE,Qgs];exact h1
   obtain⟨m0,m1,m2,m3,m4,m5⟩:=y2.cells;have hp:=x6.put (.int .i64 Q.kd) (.int .i64 Q.k) (.int .u64 (Q.old:Int)) (.int .u64 (Q.size:Int)) (.slice sa Q.S.length sc) (.slice da Q.D.length dc);have hc:=QQ w3 w.heap.size (.int .i64 Q.kd) (.int .i64 Q.k) (.int .u64 (Q.old:Int)) (.int .u64 (Q.size:Int)) (.slice sa Q.S.length sc) (.slice da Q.D.length dc);have xC : ∃sb' db',RdPC (QZ w3 w.heap.size (.int .i64 Q.kd) (.int .i64 Q.k) (.int .u64 (Q.old:Int)) (.int .u64 (Q.size:Int)) (.slice sa Q.S.length sc) (.slice da Q.D.length dc)) sa sb' 0 sc da db' 0 dc Q:=by
    have z1:Cv.Own (QZ w3 w.heap.size (.int .i64 Q.kd) (.int .i64 Q.k) (.int .u64 (Q.old:Int)) (.int .u64 (Q.size:Int)) (.slice sa Q.S.length sc) (.slice da Q.D.length dc)) W0.heap.size (.slice sa Q.S.length sc) Q.S:=Qi y4 fun g _ hB=>hc.block g (by have:=HW.out;show ¬_=_;omega)
    have z2:Qk (QZ w3 w.heap.size (.int .i64 Q.kd) (.int .i64 Q.k) (.int .u64 (Q.old:Int)) (.int .u64 (Q.size:Int)) (.slice sa Q.S.length sc) (.slice da Q.D.length dc)) W0.heap.size (.slice da Q.D.length dc) Q.D:=Qi y5 fun g _ hB=>hc.block g (by have:=HW.out;show ¬_=_;omega)
    obtain⟨ao,b',c',xM,u1,_⟩:=UH z1;obtain⟨bo,d',f',xN,u2,u3,_⟩:=Qt z2 y1.rd.sz;injection xM with g1 g2 g3
    injection xN with g4 g5 g6
    subst g1 g4;exact⟨b',d',u1,u2,y1.old64,y1.sz64,y1.mS,y1.mD,y1.cD⟩
   obtain⟨sb',db',xC⟩:=xC;unfold QZ at hp hc xC;have HN:=Qg xK;have xL:=Qg xC;rw[xE,xH];clear hw xE xH xK x6 y1 y2 y3 y4 y5 xG xC HY HD;go_wp2;obtain⟨s0,s1,s2,s3,s4,s5⟩:=hp.cells;refine Lp (v := .tuple #[.agg #[.int .i64 Q.kd,.int .i64 Q.k,.int .u64 (Q.old:Int),.int .u64 (Q.size:Int),.slice sa Q.S.length sc,.slice da Q.D.length dc],.int .i64 0]) (by simp[results,results39,go_sem,s0,s1,s2,s3,s4,s5]) rfl ?_
   exact .inr ⟨Q,sa,sb',sc,da,db',dc,HN.out,rfl,xL.out,HB.out.trans (hc.below (by rintro b rfl;omega))⟩
  ·have hn:dec s.data.toList=none:=by
    rcases hdd:dec s.data.toList with _|P
    ·rfl
    ·obtain rfl:=HD.out P hdd;obtain⟨g1,g2,_⟩:=J3 hdd;exact absurd ⟨g1,by rw[encS,Lm g1,g2,Qk0]⟩ hgd
   have hp:=x6.put (.int .i64 0) (.int .i64 0) (.int .u64 0) (.int .u64 0) (.slice none 0 0) (.slice none 0 0);have hc:=QQ w3 w.heap.size (.int .i64 0) (.int .i64 0) (.int .u64 0) (.int .u64 0) (.slice none 0 0) (.slice none 0 0);unfold QZ at hp hc;have HN:=Qg hn;have xB:encE Q=150∨(encE Q=0∧encS Q≠s):=by
    by_cases hw:Y7 Q
    ·exact .inr ⟨by rw[encE,Lm hw],fun h=>hgd ⟨hw,h⟩⟩
    ·exact .inl (by rw[encE,Le hw])
   clear hn x6 y1 y2 y3 y4 y5 xG HY HD hgd
   rcases xB with hE|⟨hE,hne⟩
   ·rw[hE];clear hE;generalize encS Q=sq;go_wp2;obtain⟨s0,s1,s2,s3,s4,s5⟩:=hp.cells;refine Lp (v := .tuple #[.agg #[.int .i64 0,.int .i64 0,.int .u64 0,.int .u64 0,.slice none 0 0,.slice none 0 0],.int .i64 140]) (by simp[results,results39,go_sem,s0,s1,s2,s3,s4,s5]) rfl ?_
    exact .inl ⟨HN.out,rfl,HB.out.trans (hc.below (by rintro b rfl;omega))⟩
   ·rw[hE];clear hE;generalize encS Q=sq at hne ⊢;have xO:(sq.toList == s.toList)=false:=Qk2 hne;clear hne;go_wp2;obtain⟨s0,s1,s2,s3,s4,s5⟩:=hp.cells;refine Lp (v := .tuple #[.agg #[.int .i64 0,.int .i64 0,.int .u64 0,.int .u64 0,.slice none 0 0,.slice none 0 0],.int .i64 140]) (by simp[results,results39,go_sem,s0,s1,s2,s3,s4,s5]) rfl ?_
    exact .inl ⟨HN.out,rfl,HB.out.trans (hc.below (by rintro b rfl;omega))⟩
theorem QdZ(s:BA)(hr : ∀w,Calls prog 84 #[.string s] w (RdQ w s))(hd:dec s.data.toList=none)(w:World):Zr 39 #[.string s] w (.tuple #[.agg #[.int .i64 0,.int .i64 0,.int .u64 0,.int .u64 0,.slice none 0 0,.slice none 0 0],.int .i64 140]):=by
 refine(Qck s hr w).mono ?_
 rintro e w' (⟨_,h2,h3⟩|⟨P,_,_,_,_,_,_,h1,_⟩)
 ·exact⟨h2,h3⟩
 ·rw[hd] at h1;cases h1
theorem YC(s:BA)(hr : ∀w,Calls prog 84 #[.string s] w (RdQ w s))(P:PV)(hd:dec s.data.toList=some P)(w:World):Calls prog 39 #[.string s] w fun e w' => ∃sa sb sc da db dc,e = .returned (.tuple #[.agg #[.int .i64 P.kd,.int .i64 P.k,.int .u64 (P.old:Int),.int .u64 (P.size:Int),.slice sa P.S.length sc,.slice da P.D.length dc],.int .i64 0])∧RdPC w' sa sb 0 sc da db 0 dc P∧Zb w w':=by
 refine(Qck s hr w).mono ?_
 rintro e w' (⟨h1,_⟩|⟨Q,sa,sb,sc,da,db,dc,h1,h2,h3,h4⟩)
 ·rw[hd] at h1;cases h1
 ·rw[hd] at h1;cases h1;exact⟨sa,sb,sc,da,db,dc,h2,h3,h4⟩
theorem Qf5(w:World)(k:Int)(o1:Nat)(c1:BA)(ca:OA)(cn cc:Nat)(s:BA)(hs:s.size<=8796093021952)(e0:Int)(he:tkE k s=e0)(h0:e0≠0) :
  Zr 47 #[.int .i64 k,.agg #[.int .u64 (o1:Int),.string c1],.slice ca cn cc,.string s] w (.int .i64 e0):=by
 obtain⟨W0,xA⟩:=Ze (w.alloc (.cells #[.int .u64 (o1:Int),.string c1] 30));have xC:Zb w W0:=by rw[<-xA];exact bal (Lb _ _) _
 rcases Qdm he h0 with ⟨hc,rfl⟩|⟨hc,hd,rfl⟩|⟨hc,P,hd,hp,rfl⟩
 ·have HC:Hid (∀W,Calls prog 20 #[.int .i64 k] W fun e w'=>e = .returned (.int .i64 70)∧w'=W):=fun W=>by rw[<-hc];exact Qy W k
  clear hc he h0 hs
  go_enter func47,ntmps47
  go_upto_region 1 with (fail)
  try rw[xA]
  clear xA
  go_wp2_with (go_at_call 20;with_reducible refine(HC.out _).mono ?_;rintro e w1 ⟨rfl,rfl⟩)
  go_ret
  exact⟨rfl,xC⟩
 ·have HC:Hid (∀W,Calls prog 20 #[.int .i64 k] W fun e w'=>e = .returned (.int .i64 0)∧w'=W):=fun W=>by rw[<-hc];exact Qy W k
  have HD:Hid (∀W,Zr 39 #[.string s] W (.tuple #[.agg #[.int .i64 0,.int .i64 0,.int .u64 0,.int .u64 0,.slice none 0 0,.slice none 0 0],.int .i64 140])):=fun W=>QdZ s (Ue s hs) hd W
  clear hc he h0 hs hd
  go_enter func47,ntmps47
  go_upto_region 1 with (fail)
  try rw[xA]
  clear xA
  go_wp2_with (first
   | (go_at_call 20;with_reducible refine(HC.out _).mono ?_;rintro e w1 ⟨rfl,rfl⟩)
   | (go_at_call 39;with_reducible refine(HD.out _).mono ?_;rintro e w2 ⟨rfl,xB⟩))
  go_ret
  exact⟨rfl,bal (Qa xC xB) _⟩
 ·have HC:Hid (∀W,Calls prog 20 #[.int .i64 k] W fun e w'=>e = .returned (.int .i64 0)∧w'=W):=fun W=>by rw[<-hc];exact Qy W k
  have HD:Hid (∀W,Calls prog 39 #[.string s] W fun e w' => ∃(old size:Nat) (sa:OA) (ns sc:Nat) (da:OA) (nd' dc:Nat),e = .returned (.tuple #[.agg #[.int .i64 P.kd,.int .i64 P.k,.int .u64 (old:Int),.int .u64 (size:Int),.slice sa ns sc,.slice da nd' dc],.int .i64 0])∧Zb W w'):=fun W=>(YC s (Ue s hs) P hd W).mono fun e w' ⟨sa,sb,sc,da,db,dc,h1,_,h3⟩=>⟨P.old,P.size,sa,P.S.length,sc,da,P.D.length,dc,h1,h3⟩
  have xF:(P.k == k)=false:=by simpa using hp
  generalize P.k=kk at *;generalize P.kd=kd at *;clear hc he h0 hs hd
  by_cases h3:kd=3
  ·subst h3
   go_enter func47,ntmps47
   go_upto_region 1 with (fail)
   try rw[xA]
   clear xA
   go_upto_region 6 with (first
    | (go_at_call 20;with_reducible refine(HC.out _).mono ?_;rintro e w1 ⟨rfl,rfl⟩)
    | (go_at_call 39;with_reducible refine(HD.out _).mono ?_;rintro e w2 ⟨old,size,sa,ns,sc,da,nd',dc,rfl,xB⟩))
   obtain⟨F,hF,h7,xD,_⟩:=Yk w2 (.int .i64 3) (.int .i64 kk) (.int .u64 (old:Int)) (.int .u64 (size:Int)) (.slice sa ns sc) (.slice da nd' dc)
   try rw[hF]
   clear hF;obtain⟨m0,m1,m2,m3,m4,m5⟩:=h7.cells;clear h7;go_wp2
   go_ret
   exact⟨rfl,Qa xC (Qa xB xD)⟩
  ·have xE:(kd == 3)=false:=by simpa using h3
   go_enter func47,ntmps47
   go_upto_region 1 with (fail)
   try rw[xA]
   clear xA
   go_upto_region 6 with (first
    | (go_at_call 20;with_reducible refine(HC.out _).mono ?_;rintro e w1 ⟨rfl,rfl⟩)
    | (go_at_call 39;with_reducible refine(HD.out _).mono ?_;rintro e w2 ⟨old,size,sa,ns,sc,da,nd',dc,rfl,xB⟩))
   obtain⟨F,hF,h7,xD,_⟩:=Yk w2 (.int .i64 kd) (.int .i64 kk) (.int .u64 (old:Int)) (.int .u64 (size:Int)) (.slice sa ns sc) (.slice da nd' dc)
   try rw[hF]
   clear hF;obtain⟨m0,m1,m2,m3,m4,m5⟩:=h7.cells;clear h7;go_wp2
   go_ret
   exact⟨rfl,Qa xC (Qa xB xD)⟩
theorem QaQ(w:World)(k:Int)(k1:1<=k)(k2:k<=32)(o1:Nat)(c1:BA)(ca:OA)(cn cc:Nat)(s:BA)(hs:s.size<=8796093021952)(P:PV)(hd:dec s.data.toList=some P)(hk:P.k=k)(h3:P.kd=3) :
  Zr 47 #[.int .i64 k,.agg #[.int .u64 (o1:Int),.string c1],.slice ca cn cc,.string s] w (.int .i64 150):=by
 obtain⟨W0,xA⟩:=Ze (w.alloc (.cells #[.int .u64 (o1:Int),.string c1] 30));have xC:Zb w W0:=by rw[<-xA];exact bal (Lb _ _) _
 have HC:Hid (∀W,Calls prog 20 #[.int .i64 k] W fun e w'=>e = .returned (.int .i64 0)∧w'=W):=fun W=>by
  have hc:chk k=0:=by rw[chk,Le (by omega)]
  rw[<-hc];exact Qy W k
 have HD:Hid (∀W,Calls prog 39 #[.string s] W fun e w' => ∃sa sb sc da db dc,e = .returned (.tuple #[.agg #[.int .i64 3,.int .i64 k,.int .u64 (P.old:Int),.int .u64 (P.size:Int),.slice sa P.S.length sc,.slice da P.D.length dc],.int .i64 0])∧RdPC w' sa sb 0 sc da db 0 dc P∧Zb W w'):=fun W=>(YC s (Ue s hs) P hd W).mono fun e w' ⟨sa,sb,sc,da,db,dc,g1,g2,g3⟩=>⟨sa,sb,sc,da,db,dc,by rw[<-h3,<-hk];exact g1,g2,g3⟩
 obtain⟨kd,kk,xF,xB,S,D⟩:=P;simp only at HD;clear hs hd hk k1 k2 h3
 go_enter func47,ntmps47
 go_upto_region 1 with (fail)
 try rw[xA]
 clear xA
 go_upto_region 6 with (first
  | (go_at_call 20;with_reducible refine(HC.out _).mono ?_;rintro e w1 ⟨rfl,rfl⟩)
  | (go_at_call 39;with_reducible refine(HD.out _).mono ?_;rintro e w2 ⟨sa,sb,sc,da,db,dc,rfl,xG,xD⟩))
 obtain⟨F,hF,h7,xE,_⟩:=Yk w2 (.int .i64 3) (.int .i64 k) (.int .u64 (xF:Int)) (.int .u64 (xB:Int)) (.slice sa S.length sc) (.slice da D.length dc)
 try rw[hF]
 clear hF;obtain⟨m0,m1,m2,m3,m4,m5⟩:=h7.cells;clear h7;go_wp2
 go_ret
 exact⟨rfl,Qa xC (Qa xD xE)⟩
theorem Qfd(w:World)(k:Int)(k1:1<=k)(k2:k<=32)(o1:Nat)(c1:BA)(ca:OA)(cb co cn cc:Nat)(l:List (Nat×BA))(hc:RdK w ca cb co cn l)(s:BA)(hs:s.size<=8796093021952)(P:PV)(hd:dec s.data.toList=some P)(hk:P.k=k)(h3:P.kd≠3)(hno:P.S≠ixs l) :
  Zr 47 #[.int .i64 k,.agg #[.int .u64 (o1:Int),.string c1],.slice ca cn cc,.string s] w (.int .i64 150):=by
 obtain⟨W0,xA⟩:=Ze (w.alloc (.cells #[.int .u64 (o1:Int),.string c1] 30));have xF:Zb w W0:=by rw[<-xA];exact bal (Lb _ _) _
 have HC:Hid (∀W,Calls prog 20 #[.int .i64 k] W fun e w'=>e = .returned (.int .i64 0)∧w'=W):=fun W=>by
  have hc:chk k=0:=by rw[chk,Le (by omega)]
  rw[<-hc];exact Qy W k
 have HD:Hid (∀W,Calls prog 39 #[.string s] W fun e w' => ∃sa sb sc da db dc,e = .returned (.tuple #[.agg #[.int .i64 P.kd,.int .i64 k,.int .u64 (P.old:Int),.int .u64 (P.size:Int),.slice sa P.S.length sc,.slice da P.D.length dc],.int .i64 0])∧RdPC w' sa sb 0 sc da db 0 dc P∧Zb W w'):=fun W=>(YC s (Ue s hs) P hd W).mono fun e w' ⟨sa,sb,sc,da,db,dc,g1,g2,g3⟩=>⟨sa,sb,sc,da,db,dc,by rw[<-hk];exact g1,g2,g3⟩
 have HF:Hid (∀W sa sb sc da db dc,Zb w W->RdPC W sa sb 0 sc da db 0 dc P->Zr 94 #[.slice sa P.S.length sc,.slice ca cn cc] W (.bool false)):=fun W sa sb sc da db dc hb hF=>QdC W sa sb 0 sc P.S hF.rs hF.mS ca cb co cn cc l (hc.next hb) false (Lj hno)
 obtain⟨kd,kk,xI,xB,S,D⟩:=P;simp only at HD HF h3;have xJ:(kd == 3)=false:=by simpa using h3
 clear hs hd hk k1 k2 hc hno
 go_enter func47,ntmps47
 go_upto_region 1 with (fail)
 try rw[xA]
 clear xA
 go_upto_region 6 with (first
  | (go_at_call 20;with_reducible refine(HC.out _).mono ?_;rintro e w1 ⟨rfl,rfl⟩)
  | (go_at_call 39;with_reducible refine(HD.out _).mono ?_;rintro e w2 ⟨sa,sb,sc,da,db,dc,rfl,xE,xG⟩))
 obtain⟨F,hF,h7,xC,_⟩:=Yk w2 (.int .i64 kd) (.int .i64 k) (.int .u64 (xI:Int)) (.int .u64 (xB:Int)) (.slice sa S.length sc) (.slice da D.length dc)
 try rw[hF]
 clear hF;obtain⟨m0,m1,m2,m3,m4,m5⟩:=h7.cells;have xD:=xE.next xC;have xb:=Qa xF (Qa xG xC);clear h7
 go_wp2_with (go_at_call 94;with_reducible refine(HF.out _ _ _ _ _ _ _ xb xD).mono ?_;rintro e w4 ⟨rfl,xH⟩)
 go_ret
 exact⟨rfl,Qa xb xH⟩
theorem QdX(w:World)(k:Int)(k1:1<=k)(k2:k<=32)(o1:Nat)(c1:BA)(ca:OA)(cb co cn cc:Nat)(l:List (Nat×BA))(hc:RdK w ca cb co cn l)(_:cn<=8796093021952)(s:BA)(hs:s.size<=8796093021952)(P:PV)(hd:dec s.data.toList=some P)(hk:P.k=k)(hkd:P.kd=1)(hS:P.S=ixs l)(h0:0<cn)
  (n:Nat) (d:BA) (er:Int)
  (hR : ∀W sa sb sc da db dc,Zb w W->RdPC W sa sb 0 sc da db 0 dc P->Zr 95 #[vP 1 k P.old P.size (.slice sa P.S.length sc) (.slice da P.D.length dc),.string (l.getD 0 noC).2] W (.tuple #[.agg #[.int .u64 (n:Int),.string d],.int .i64 er]))
  (r:Int) (hr:clmD n d er o1 c1=r) :
  Zr 47 #[.int .i64 k,.agg #[.int .u64 (o1:Int),.string c1],.slice ca cn cc,.string s] w (.int .i64 r):=by
 obtain⟨W0,zK⟩:=Ze (w.alloc (.cells #[.int .u64 (o1:Int),.string c1] 30));have zM:Rh W0 w.heap.size o1 c1∧Zb w W0:=by rw[<-zK];exact⟨Lu w _,bal (Lb _ _) _⟩
 have HC:Hid (∀W,Calls prog 20 #[.int .i64 k] W fun e w'=>e = .returned (.int .i64 0)∧w'=W):=fun W=>by
  have hc:chk k=0:=by rw[chk,Le (by omega)]
  rw[<-hc];exact Qy W k
 have HD:Hid (∀W,Calls prog 39 #[.string s] W fun e w' => ∃sa sb sc da db dc,e = .returned (.tuple #[.agg #[.int .i64 1,.int .i64 k,.int .u64 (P.old:Int),.int .u64 (P.size:Int),.slice sa P.S.length sc,.slice da P.D.length dc],.int .i64 0])∧RdPC w' sa sb 0 sc da db 0 dc P∧Zb W w'):=fun W=>(YC s (Ue s hs) P hd W).mono fun e w' ⟨sa,sb,sc,da,db,dc,g1,g2,g3⟩=>⟨sa,sb,sc,da,db,dc,by rw[<-hkd,<-hk];exact g1,g2,g3⟩
 have HF:Hid (∀W sa sb sc da db dc,Zb w W->RdPC W sa sb 0 sc da db 0 dc P->Zr 94 #[.slice sa P.S.length sc,.slice ca cn cc] W (.bool true)):=fun W sa sb sc da db dc hb hF=>QdC W sa sb 0 sc P.S hF.rs hF.mS ca cb co cn cc l (hc.next hb) true (Ln hS)
 have HR:=Qe hR;unfold vP at HR;obtain rfl:=hc.ptr h0;have HK:Hid (∀W,Zb w W->W.cell? ⟨cb,co+1,none⟩=some (.string (l.getD 0 noC).2)):=fun W hb=>by have:=((hc.next hb).at h0).2;simpa using this
 clear hc;obtain⟨kd,kk,kA,zH,S,D⟩:=P;simp only at HD HF HR;have HX:Hid (∀F,Zb W0 F->Rh F w.heap.size o1 c1∧Zb w F):=fun F hF=>⟨zM.1.next hF,Qa zM.2 hF⟩
 clear hs hd hk k1 k2 hS hR zM hkd
 go_enter func47,ntmps47
 go_upto_region 1 with (fail)
 try rw[zK]
 clear zK
 go_upto_region 6 with (first
  | (go_at_call 20;with_reducible refine(HC.out _).mono ?_;rintro e w1 ⟨rfl,rfl⟩)
  | (go_at_call 39;with_reducible refine(HD.out _).mono ?_;rintro e w2 ⟨sa,sb,sc,da,db,dc,rfl,zN,xD⟩))
 obtain⟨F,hF,h7,xA,_⟩:=Yk w2 (.int .i64 1) (.int .i64 k) (.int .u64 (kA:Int)) (.int .u64 (zH:Int)) (.slice sa S.length sc) (.slice da D.length dc)
 try rw[hF]
 clear hF;obtain⟨m0,m1,m2,m3,m4,m5⟩:=h7.cells;have zJ:=zN.next xA;have xb:=(HX.out _ (Qa xD xA)).2
 go_upto_region 8 with (go_at_call 94;with_reducible refine(HF.out _ _ _ _ _ _ _ xb zJ).mono ?_;rintro e w4 ⟨rfl,xC⟩)
 go_upto_region 9 with (fail)
 obtain⟨G,hG⟩:=Ze (w4.alloc (.cells #[.int .u64 0,.string ⟨#[]⟩] 30));have zI:Zb w4 G:=by rw[<-hG];exact bal (Lb _ _) _
 have kD:Rh G w4.heap.size 0 ⟨#[]⟩:=by rw[<-hG];exact Lu w4 _
 try rw[hG]
 clear hG;have h9:=h7.next (Qa xC zI);obtain⟨m0,m1,m2,m3,m4,m5⟩:=h9.cells;have kB:=zJ.next (Qa xC zI);obtain⟨xr,xB⟩:=HX.out _ (Qa (Qa xD xA) (Qa xC zI));have zL:w.heap.size<w4.heap.size:=((HX.out _ (Qa (Qa xD xA) xC)).1).lt;have kE:w.heap.size<=w4.heap.size:=(HX.out _ (Qa (Qa xD xA) xC)).2.size;have kC:w.heap.size≠w4.heap.size:=by have:=zL;omega
 have HE:=Qe (Lo xr xB);clear zJ xb h7 xD xA xC zI zN HD HC HF HX xr
 go_upto_region 10 with (fail)
 refine YQ (by kernel_rfl) (by kernel_rfl) (XF w G w4.heap.size w.heap.size w2.heap.size (.agg #[.int .i64 1,.int .i64 k,.int .u64 (kA:Int),.int .u64 (zH:Int),.slice sa S.length sc,.slice da D.length dc]) cb co cn cc (l.getD 0 noC).2 n d er o1 c1)
  (fun Z _ hZ => { o5:=HE.out.1.next hZ,sz:=rfl,df:=rfl,i2:=rfl,i5:=rfl,i9:=rfl,i11:=rfl,b1:=(fun _=>hZ),b2:=(Qa HE.out.2 hZ),a0:=(fun h=>by cases h),a1:=(fun h=>by cases h),a2:=(fun h=>by cases h),a3:=(fun h=>by cases h),a4:=(fun h=>by cases h),a5:=(fun h=>by cases h),a6:=(fun h=>by cases h),a7:=(fun h=>by cases h),a8:=(fun h=>by cases h),a9:=(fun h=>by cases h),a10:=(fun h=>by cases h) })
  ⟨xf_0 rfl (fun Z hZ=>⟨_,_,_,_,_,_,rfl,h9.next hZ⟩),xf_1,xf_2 rfl h0,xf_3 rfl,xf_4 rfl rfl (fun Z hZ=>HK.out Z (Qa HE.out.2 hZ)),xf_5 rfl rfl rfl (fun Z hZ=>HR.out Z _ _ _ _ _ _ (Qa HE.out.2 hZ) (kB.next hZ)),xf_6 rfl,xf_7 rfl,xf_8 rfl,xf_9 rfl (fun Z hZ=>⟨_,_,kD.next hZ⟩) kE kC,Qou rfl,trivial⟩ ?_
 intro L a7 w7 hall hI;obtain⟨⟨tl⟩,df⟩:=a7;have zO:tl.length=64:=hI.sz;obtain⟨u0,t0,rfl,zP⟩:=Qc zO;obtain⟨u1,t1,rfl,zQ⟩:=Qc zP;obtain⟨u2,t2,rfl,zR⟩:=Qc zQ;obtain⟨u3,t3,rfl,zS⟩:=Qc zR;obtain⟨u4,t4,rfl,zT⟩:=Qc zS;obtain⟨u5,t5,rfl,zU⟩:=Qc zT;obtain⟨u6,t6,rfl,zV⟩:=Qc zU;obtain⟨u7,t7,rfl,zW⟩:=Qc zV;obtain⟨u8,t8,rfl,zX⟩:=Qc zW;obtain⟨u9,t9,rfl,xE⟩:=Qc zX;obtain⟨u10,kF,rfl,xF⟩:=Qc xE;obtain⟨u11,kG,rfl,xG⟩:=Qc xF;obtain⟨u12,kH,rfl,xH⟩:=Qc xG;obtain⟨u13,kI,rfl,xI⟩:=Qc xH;obtain⟨u14,kJ,rfl,xJ⟩:=Qc xI;obtain⟨u15,kK,rfl,xK⟩:=Qc xJ;obtain⟨u16,kL,rfl,xL⟩:=Qc xK;obtain⟨u17,kM,rfl,xM⟩:=Qc xL;obtain⟨u18,kN,rfl,xN⟩:=Qc xM;obtain⟨u19,kO,rfl,xO⟩:=Qc xN;obtain⟨u20,kP,rfl,xP⟩:=Qc xO;obtain⟨u21,kQ,rfl,xQ⟩:=Qc xP;obtain⟨u22,kR,rfl,xR⟩:=Qc xQ;obtain⟨u23,kS,rfl,xS⟩:=Qc xR;obtain⟨u24,kT,rfl,xT⟩:=Qc xS;obtain⟨u25,kU,rfl,xU⟩:=Qc xT;obtain⟨u26,kV,rfl,xV⟩:=Qc xU;obtain⟨u27,kW,rfl,xW⟩:=Qc xV;obtain⟨u28,kX,rfl,xX⟩:=Qc xW;obtain⟨u29,kY,rfl,xY⟩:=Qc xX;obtain⟨u30,kZ,rfl,xZ⟩:=Qc xY;obtain⟨u31,pA,rfl,yA⟩:=Qc xZ;obtain⟨u32,pB,rfl,yB⟩:=Qc yA;obtain⟨u33,pC,rfl,yC⟩:=Qc yB;obtain⟨u34,pD,rfl,yD⟩:=Qc yC;obtain⟨u35,pE,rfl,yE⟩:=Qc yD;obtain⟨u36,pF,rfl,yF⟩:=Qc yE;obtain⟨u37,pG,rfl,yG⟩:=Qc yF;obtain⟨u38,pH,rfl,yH⟩:=Qc yG;obtain⟨u39,pI,rfl,yI⟩:=Qc yH;obtain⟨u40,pJ,rfl,yJ⟩:=Qc yI;obtain⟨u41,pK,rfl,yK⟩:=Qc yJ;obtain⟨u42,pL,rfl,yL⟩:=Qc yK;obtain⟨u43,pM,rfl,yM⟩:=Qc yL;obtain⟨u44,pN,rfl,yN⟩:=Qc yM;obtain⟨u45,pO,rfl,yO⟩:=Qc yN;obtain⟨u46,pP,rfl,yP⟩:=Qc yO;obtain⟨u47,pQ,rfl,yQ⟩:=Qc yP;obtain⟨u48,pR,rfl,yR⟩:=Qc yQ;obtain⟨u49,pS,rfl,yS⟩:=Qc yR;obtain⟨u50,pT,rfl,yT⟩:=Qc yS;obtain⟨u51,pU,rfl,yU⟩:=Qc yT;obtain⟨u52,pV,rfl,yV⟩:=Qc yU;obtain⟨u53,pW,rfl,yW⟩:=Qc yV;obtain⟨u54,pX,rfl,yX⟩:=Qc yW;obtain⟨u55,pY,rfl,yY⟩:=Qc yX;obtain⟨u56,pZ,rfl,yZ⟩:=Qc yY;obtain⟨u57,qA,rfl,zA⟩:=Qc yZ;obtain⟨u58,qB,rfl,zB⟩:=Qc zA;obtain⟨u59,qC,rfl,zC⟩:=Qc zB;obtain⟨u60,qD,rfl,zD⟩:=Qc zC;obtain⟨u61,qE,rfl,zE⟩:=Qc zD;obtain⟨u62,qF,rfl,zF⟩:=Qc zE;obtain⟨u63,qG,rfl,zG⟩:=Qc zF;obtain rfl:=List.length_eq_zero_iff.1 zG;obtain rfl:df=[]:=hI.df;obtain rfl:u5 = .pointer (some ⟨w.heap.size,0,none⟩):=hI.i5;obtain rfl:u11 = .pointer (some ⟨w4.heap.size,0,none⟩):=hI.i11;obtain rfl:u10 = .int .i64 er:=hI.a10 (hall 10 (by decide))
 obtain⟨b0,b1⟩:=(hI.a9 (hall 9 (by decide))).cells
 have zY:Rh w7 w.heap.size o1 c1:=hI.o5;obtain⟨a0,a1⟩:=zY.cells;have HB:=Qe hI.b2;clear zO zP zQ zR zS zT zU zV zW zX xE xF xG xH xI xJ xK xL xM xN xO xP xQ xR xS xT xU xV xW xX xY xZ yA yB yC yD yE yF yG yH yI yJ yK yL yM yN yO yP yQ yR yS yT yU yV yW yX yY yZ zA zB zC zD zE zF zG;clear hI hall zY HE HR xB;unfold clmD at hr
 by_cases h1:er=0
 ·subst h1
  by_cases h2:n=o1∧d=c1
  ·obtain⟨rfl,rfl⟩:=h2;rw[Lm ⟨rfl,rfl,rfl⟩] at hr;subst hr;go_wp2
   go_ret
   exact⟨rfl,HB.out⟩
  ·rw[Le (fun h=>h2 h.2)] at hr
   subst hr
   rcases Qd5 h2 with hn|⟨rfl,hd⟩
   ·have hz : ¬(n:Int)=(o1:Int):=by omega
    have zZ:((n:Int) == (o1:Int))=false:=by simpa using hz
    clear h2 hn;go_wp2
    go_ret
    exact⟨rfl,HB.out⟩
   ·have hz:=Uu hd;have zZ:=YZ hd;clear h2 hd;go_wp2
    go_ret
    exact⟨rfl,HB.out⟩
 ·rw[Le (fun h=>h1 h.1)] at hr
  subst hr;have zZ:(er == 0)=false:=by simpa using h1
  go_wp2
  go_ret
  exact⟨rfl,HB.out⟩
theorem QcH(w:World)(k:Int)(k1:1<=k)(k2:k<=32)(o1:Nat)(c1:BA)(ca:OA)(cb co cn cc:Nat)(l:List (Nat×BA))(hc:RdK w ca cb co cn l)(hcm:cn<=8796093021952)(s:BA)(hs:s.size<=8796093021952)(P:PV)(hd:dec s.data.toList=some P)(hk:P.k=k)(hkd:P.kd=2)(hS:P.S=ixs l) 
  (n:Nat) (d:BA) (er:Int)
  (hR : ∀W sa sb sc da db dc ao m c,Zb w W->RdPC W sa sb 0 sc da db 0 dc P->Qk W w.heap.size (.slice ao m c) (vls l)->Zr 96 #[vP 2 k P.old P.size (.slice sa P.S.length sc) (.slice da P.D.length dc),.slice ao m c] W (.tuple #[.agg #[.int .u64 (n:Int),.string d],.int .i64 er]))
  (r:Int) (hr:clmD n d er o1 c1=r) :
  Zr 47 #[.int .i64 k,.agg #[.int .u64 (o1:Int),.string c1],.slice ca cn cc,.string s] w (.int .i64 r):=by
 obtain⟨W0,zK⟩:=Ze (w.alloc (.cells #[.int .u64 (o1:Int),.string c1] 30));have zM:Rh W0 w.heap.size o1 c1∧Zb w W0:=by rw[<-zK];exact⟨Lu w _,bal (Lb _ _) _⟩
 have HC:Hid (∀W,Calls prog 20 #[.int .i64 k] W fun e w'=>e = .returned (.int .i64 0)∧w'=W):=fun W=>by
  have hc:chk k=0:=by rw[chk,Le (by omega)]
  rw[<-hc];exact Qy W k
 have HD:Hid (∀W,Calls prog 39 #[.string s] W fun e w' => ∃sa sb sc da db dc,e = .returned (.tuple #[.agg #[.int .i64 2,.int .i64 k,.int .u64 (P.old:Int),.int .u64 (P.size:Int),.slice sa P.S.length sc,.slice da P.D.length dc],.int .i64 0])∧RdPC w' sa sb 0 sc da db 0 dc P∧Zb W w'):=fun W=>(YC s (Ue s hs) P hd W).mono fun e w' ⟨sa,sb,sc,da,db,dc,g1,g2,g3⟩=>⟨sa,sb,sc,da,db,dc,by rw[<-hkd,<-hk];exact g1,g2,g3⟩
 have HF:Hid (∀W sa sb sc da db dc,Zb w W->RdPC W sa sb 0 sc da db 0 dc P->Zr 94 #[.slice sa P.S.length sc,.slice ca cn cc] W (.bool true)):=fun W sa sb sc da db dc hb hF=>QdC W sa sb 0 sc P.S hF.rs hF.mS ca cb co cn cc l (hc.next hb) true (Ln hS)
 have HR:=Qe hR;unfold vP at HR;have HV:Hid (∀W,Zb w W->Ro 49 #[.slice ca cn cc] W (vls l)):=fun W hb=>QaW W ca cb co cn cc l (hc.next hb) hcm
 clear hc;obtain⟨kd,kk,kA,zH,S,D⟩:=P;simp only at HD HF HR;have HX:Hid (∀F,Zb W0 F->Rh F w.heap.size o1 c1∧Zb w F):=fun F hF=>⟨zM.1.next hF,Qa zM.2 hF⟩
 clear hs hd hk k1 k2 hS hR zM hkd
 go_enter func47,ntmps47
 go_upto_region 1 with (fail)
 try rw[zK]
 clear zK
 go_upto_region 6 with (first
  | (go_at_call 20;with_reducible refine(HC.out _).mono ?_;rintro e w1 ⟨rfl,rfl⟩)
  | (go_at_call 39;with_reducible refine(HD.out _).mono ?_;rintro e w2 ⟨sa,sb,sc,da,db,dc,rfl,zN,xD⟩))
 obtain⟨F,hF,h7,xA,_⟩:=Yk w2 (.int .i64 2) (.int .i64 k) (.int .u64 (kA:Int)) (.int .u64 (zH:Int)) (.slice sa S.length sc) (.slice da D.length dc)
 try rw[hF]
 clear hF;obtain⟨m0,m1,m2,m3,m4,m5⟩:=h7.cells;have zJ:=zN.next xA;have xb:=(HX.out _ (Qa xD xA)).2
 go_upto_region 8 with (go_at_call 94;with_reducible refine(HF.out _ _ _ _ _ _ _ xb zJ).mono ?_;rintro e w4 ⟨rfl,xC⟩)
 go_upto_region 9 with (fail)
 obtain⟨G,hG⟩:=Ze (w4.alloc (.cells #[.int .u64 0,.string ⟨#[]⟩] 30));have zI:Zb w4 G:=by rw[<-hG];exact bal (Lb _ _) _
 have kD:Rh G w4.heap.size 0 ⟨#[]⟩:=by rw[<-hG];exact Lu w4 _
 try rw[hG]
 clear hG;have h9:=h7.next (Qa xC zI);obtain⟨m0,m1,m2,m3,m4,m5⟩:=h9.cells;have kB:=zJ.next (Qa xC zI);obtain⟨xr,xB⟩:=HX.out _ (Qa (Qa xD xA) (Qa xC zI));have zL:w.heap.size<w4.heap.size:=((HX.out _ (Qa (Qa xD xA) xC)).1).lt;have kE:w.heap.size<=w4.heap.size:=(HX.out _ (Qa (Qa xD xA) xC)).2.size;have kC:w.heap.size≠w4.heap.size:=by have:=zL;omega
 have HE:=Qe (Lo xr xB);clear zJ xb h7 xD xA xC zI zN HD HC HF HX xr
 go_upto_region 11 with (fail)
 refine YQ (by kernel_rfl) (by kernel_rfl) (YF w G w4.heap.size w.heap.size w2.heap.size (.agg #[.int .i64 2,.int .i64 k,.int .u64 (kA:Int),.int .u64 (zH:Int),.slice sa S.length sc,.slice da D.length dc]) ca cn cc (vls l) n d er o1 c1)
  (fun Z _ hZ => { o5:=HE.out.1.next hZ,sz:=rfl,df:=rfl,i2:=rfl,i5:=rfl,i9:=rfl,i11:=rfl,b1:=(fun _=>hZ),b2:=(Qa HE.out.2 hZ),a0:=(fun h=>by cases h),a1:=(fun h=>by cases h),a2:=(fun h=>by cases h),a3:=(fun h=>by cases h),a4:=(fun h=>by cases h),a5:=(fun h=>by cases h),a6:=(fun h=>by cases h),a7:=(fun h=>by cases h),a8:=(fun h=>by cases h) })
  ⟨yf_0 rfl (fun Z hZ=>⟨_,_,_,_,_,_,rfl,h9.next hZ⟩),yf_1,yf_2 rfl rfl (fun Z hZ=>HV.out Z (Qa HE.out.2 hZ)),yf_3 rfl rfl rfl (fun Z ao m c hZ ho=>HR.out Z _ _ _ _ _ _ ao m c (Qa HE.out.2 hZ) (kB.next hZ) (OW ho HE.out.2.size)),yf_4 rfl,yf_5 rfl,yf_6 rfl,yf_7 rfl rfl (fun Z hZ=>⟨_,_,kD.next hZ⟩) kE kC,yf_8 rfl,trivial⟩ ?_
 intro L a7 w7 hall hI;obtain⟨⟨tl⟩,df⟩:=a7;have zO:tl.length=64:=hI.sz;obtain⟨u0,t0,rfl,zP⟩:=Qc zO;obtain⟨u1,t1,rfl,zQ⟩:=Qc zP;obtain⟨u2,t2,rfl,zR⟩:=Qc zQ;obtain⟨u3,t3,rfl,zS⟩:=Qc zR;obtain⟨u4,t4,rfl,zT⟩:=Qc zS;obtain⟨u5,t5,rfl,zU⟩:=Qc zT;obtain⟨u6,t6,rfl,zV⟩:=Qc zU;obtain⟨u7,t7,rfl,zW⟩:=Qc zV;obtain⟨u8,t8,rfl,zX⟩:=Qc zW;obtain⟨u9,t9,rfl,xE⟩:=Qc zX;obtain⟨u10,kF,rfl,xF⟩:=Qc xE;obtain⟨u11,kG,rfl,xG⟩:=Qc xF;obtain⟨u12,kH,rfl,xH⟩:=Qc xG;obtain⟨u13,kI,rfl,xI⟩:=Qc xH;obtain⟨u14,kJ,rfl,xJ⟩:=Qc xI;obtain⟨u15,kK,rfl,xK⟩:=Qc xJ;obtain⟨u16,kL,rfl,xL⟩:=Qc xK;obtain⟨u17,kM,rfl,xM⟩:=Qc xL;obtain⟨u18,kN,rfl,xN⟩:=Qc xM;obtain⟨u19,kO,rfl,xO⟩:=Qc xN;obtain⟨u20,kP,rfl,xP⟩:=Qc xO;obtain⟨u21,kQ,rfl,xQ⟩:=Qc xP;obtain⟨u22,kR,rfl,xR⟩:=Qc xQ;obtain⟨u23,kS,rfl,xS⟩:=Qc xR;obtain⟨u24,kT,rfl,xT⟩:=Qc xS;obtain⟨u25,kU,rfl,xU⟩:=Qc xT;obtain⟨u26,kV,rfl,xV⟩:=Qc xU;obtain⟨u27,kW,rfl,xW⟩:=Qc xV;obtain⟨u28,kX,rfl,xX⟩:=Qc xW;obtain⟨u29,kY,rfl,xY⟩:=Qc xX;obtain⟨u30,kZ,rfl,xZ⟩:=Qc xY;obtain⟨u31,pA,rfl,yA⟩:=Qc xZ;obtain⟨u32,pB,rfl,yB⟩:=Qc yA;obtain⟨u33,pC,rfl,yC⟩:=Qc yB;obtain⟨u34,pD,rfl,yD⟩:=Qc yC;obtain⟨u35,pE,rfl,yE⟩:=Qc yD;obtain⟨u36,pF,rfl,yF⟩:=Qc yE;obtain⟨u37,pG,rfl,yG⟩:=Qc yF;obtain⟨u38,pH,rfl,yH⟩:=Qc yG;obtain⟨u39,pI,rfl,yI⟩:=Qc yH;obtain⟨u40,pJ,rfl,yJ⟩:=Qc yI;obtain⟨u41,pK,rfl,yK⟩:=Qc yJ;obtain⟨u42,pL,rfl,yL⟩:=Qc yK;obtain⟨u43,pM,rfl,yM⟩:=Qc yL;obtain⟨u44,pN,rfl,yN⟩:=Qc yM;obtain⟨u45,pO,rfl,yO⟩:=Qc yN;obtain⟨u46,pP,rfl,yP⟩:=Qc yO;obtain⟨u47,pQ,rfl,yQ⟩:=Qc yP;obtain⟨u48,pR,rfl,yR⟩:=Qc yQ;obtain⟨u49,pS,rfl,yS⟩:=Qc yR;obtain⟨u50,pT,rfl,yT⟩:=Qc yS;obtain⟨u51,pU,rfl,yU⟩:=Qc yT;obtain⟨u52,pV,rfl,yV⟩:=Qc yU;obtain⟨u53,pW,rfl,yW⟩:=Qc yV;obtain⟨u54,pX,rfl,yX⟩:=Qc yW;obtain⟨u55,pY,rfl,yY⟩:=Qc yX;obtain⟨u56,pZ,rfl,yZ⟩:=Qc yY;obtain⟨u57,qA,rfl,zA⟩:=Qc yZ;obtain⟨u58,qB,rfl,zB⟩:=Qc zA;obtain⟨u59,qC,rfl,zC⟩:=Qc zB;obtain⟨u60,qD,rfl,zD⟩:=Qc zC;obtain⟨u61,qE,rfl,zE⟩:=Qc zD;obtain⟨u62,qF,rfl,zF⟩:=Qc zE;obtain⟨u63,qG,rfl,zG⟩:=Qc zF;obtain rfl:=List.length_eq_zero_iff.1 zG;obtain rfl:df=[]:=hI.df;obtain rfl:u5 = .pointer (some ⟨w.heap.size,0,none⟩):=hI.i5;obtain rfl:u11 = .pointer (some ⟨w4.heap.size,0,none⟩):=hI.i11;obtain rfl:u10 = .int .i64 er:=hI.a8 (hall 8 (by decide))
 obtain⟨b0,b1⟩:=(hI.a7 (hall 7 (by decide))).cells
 have zY:Rh w7 w.heap.size o1 c1:=hI.o5;obtain⟨a0,a1⟩:=zY.cells;have HB:=Qe hI.b2;clear zO zP zQ zR zS zT zU zV zW zX xE xF xG xH xI xJ xK xL xM xN xO xP xQ xR xS xT xU xV xW xX xY xZ yA yB yC yD yE yF yG yH yI yJ yK yL yM yN yO yP yQ yR yS yT yU yV yW yX yY yZ zA zB zC zD zE zF zG;clear hI hall zY HE HR xB;unfold clmD at hr
 by_cases h1:er=0
 ·subst h1
  by_cases h2:n=o1∧d=c1
  ·obtain⟨rfl,rfl⟩:=h2;rw[Lm ⟨rfl,rfl,rfl⟩] at hr;subst hr;go_wp2
   go_ret
   exact⟨rfl,HB.out⟩
  ·rw[Le (fun h=>h2 h.2)] at hr
   subst hr
   rcases Qd5 h2 with hn|⟨rfl,hd⟩
   ·have hz : ¬(n:Int)=(o1:Int):=by omega
    have zZ:((n:Int) == (o1:Int))=false:=by simpa using hz
    clear h2 hn;go_wp2
    go_ret
    exact⟨rfl,HB.out⟩
   ·have hz:=Uu hd;have zZ:=YZ hd;clear h2 hd;go_wp2
    go_ret
    exact⟨rfl,HB.out⟩
 ·rw[Le (fun h=>h1 h.1)] at hr
  subst hr;have zZ:(er == 0)=false:=by simpa using h1
  go_wp2
  go_ret
  exact⟨rfl,HB.out⟩
end Go.Proofs.YtdocjikpcbmcgaaGreatDoor
