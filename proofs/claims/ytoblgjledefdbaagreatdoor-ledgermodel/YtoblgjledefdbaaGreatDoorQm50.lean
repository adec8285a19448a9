/- Own work. -/
import Derived.Test.YtoblgjledefdbaaGreatDoorQm49
set_option maxRecDepth 100000
set_option maxHeartbeats 4000000
namespace Go.Proofs.YtoblgjledefdbaaGreatDoor
open Go.RowKit
attribute [local go_sem ↓] Go.wp_at_zero Go.wp_at_succ
open Go.Proofs.Tryz
def encS(P:PV):BA:=if Yk P then ⟨(enc P).toArray⟩ else ⟨#[]⟩
def encE(P:PV):Int:=if Yk P then 0 else 150
theorem QdI(w:World)(sa:OA)(sb so sc:Nat)(da:OA)(db dO dc:Nat)(P:PV)(hp:RdPC w sa sb so sc da db dO dc P) :
  Calls prog 114 #[pvP P sa sc da dc] w fun e w'=>e = .returned (.tuple #[.string (encS P),.int .i64 (encE P)])∧Below w.heap.size w w':=by
 by_cases h:Yk P
 ·rw[encS,encE,Lk h,Lk h];exact rencode_yes w sa sb so sc da db dO dc P hp h
 ·rw[encS,encE,Le h,Le h];exact Qgd w sa sb so sc da db dO dc P hp h
theorem Qd4(bs:BA) : ∀(n i:Nat) (r:List UInt8),bs.size - i=n->ByteArray.toList.loop bs i r=r.reverse++bs.data.toList.drop i:=by
 intro n
 induction n with
 | zero =>
  intro i r h;rw[ByteArray.toList.loop,Le (by omega)]
  rw[LZ (by simp;exact(by omega:bs.size<=i)),LS]
 | succ n ih =>
  intro i r h;have hi:i<bs.size:=by omega
  rw[ByteArray.toList.loop,Lk hi,ih (i+1) _ (by omega)]
  have hl:i<bs.data.toList.length:=by simp;exact hi
  rw[LN hl,Id,Lq];have:bs.get! i=bs.data.toList[i]:=by
   show bs.data[i]! = _
   have xA:i<bs.data.size:=hi;rw[getElem!_pos bs.data i xA];simp
  rw[this];rfl
theorem Qb7(bs:BA):bs.toList=bs.data.toList:=by
 rw[ByteArray.toList,Qd4 bs bs.size 0 [] rfl];rfl
theorem QlB{x y:BA}(h:x≠y):(x.toList == y.toList)=false:=by
 rw[Qb7,Qb7];simp only[beq_eq_false_iff_ne,ne_eq];intro e;exact h (I4 (Array.toList_inj.1 e))
theorem QmK{w:World}{s:BA}{e:Ending}{w':World}(h:RdQ w s e w') : ∃(kd k old size:Int) (sa:OA) (sl sc:Nat) (da:OA) (dl dc:Nat) (b:Bool),e = .returned (.tuple #[.agg #[.int .i64 kd,.int .i64 k,.int .u64 old,.int .u64 size,.slice sa sl sc,.slice da dl dc],.bool b])∧Below w.heap.size w w' ∧
  ((b=false∧dec s.data.toList=none)∨(b=true ∧ ∃Q sb db,kd=Q.kd∧k=Q.k∧old=(Q.old:Int)∧size=(Q.size:Int)∧sl=Q.S.length∧dl=Q.D.length∧RdPC w' sa sb 0 sc da db 0 dc Q∧(Cv.Own w' w.heap.size (.slice sa Q.S.length sc) Q.S∧Qi w' w.heap.size (.slice da Q.D.length dc) Q.D)∧(∀P,dec s.data.toList=some P->Q=P))):=by
 rcases h with ⟨kd,k,old,size,sa,sl,sc,da,dl,dc,rfl,h1,h2⟩|⟨Q,sa,sb,sc,da,db,dc,rfl,h1,ho,h2,h3⟩
 ·exact⟨kd,k,old,size,sa,sl,sc,da,dl,dc,false,rfl,h2,.inl ⟨rfl,h1⟩⟩
 ·exact⟨Q.kd,Q.k,Q.old,Q.size,sa,_,sc,da,_,dc,true,rfl,h3,.inr ⟨rfl,Q,sb,db,rfl,rfl,rfl,rfl,rfl,rfl,h1,ho,h2⟩⟩
def DeQ(w:World)(s:BA)(e:Ending)(w':World):Prop :=
 (dec s.data.toList=none∧e = .returned (.tuple #[.agg #[.int .i64 0,.int .i64 0,.int .u64 0,.int .u64 0,.slice none 0 0,.slice none 0 0],.int .i64 140])∧Below w.heap.size w w') ∨
 (∃P sa sb sc da db dc,dec s.data.toList=some P∧e = .returned (.tuple #[pvP P sa sc da dc,.int .i64 0])∧RdPC w' sa sb 0 sc da db 0 dc P∧Below w.heap.size w w')
theorem Qgc(s:BA)(hr : ∀w,Calls prog 113 #[.string s] w (RdQ w s))(w:World):Calls prog 62 #[.string s] w (DeQ w s):=by
 have HR:Hid (∀F,Calls prog 113 #[.string s] F fun e w' => ∃(kd k old size:Int) (sa:OA) (sl sc:Nat) (da:OA) (dl dc:Nat) (b:Bool),e = .returned (.tuple #[.agg #[.int .i64 kd,.int .i64 k,.int .u64 old,.int .u64 size,.slice sa sl sc,.slice da dl dc],.bool b])∧Below F.heap.size F w'∧Hid ((b=false∧dec s.data.toList=none)∨(b=true ∧ ∃Q sb db,kd=Q.kd∧k=Q.k∧old=(Q.old:Int)∧size=(Q.size:Int)∧sl=Q.S.length∧dl=Q.D.length∧RdPC w' sa sb 0 sc da db 0 dc Q∧(Cv.Own w' F.heap.size (.slice sa Q.S.length sc) Q.S∧Qi w' F.heap.size (.slice da Q.D.length dc) Q.D)∧(∀P,dec s.data.toList=some P->Q=P)))):=fun F=>(hr F).mono fun _ _ h=>QmK h
 obtain⟨W0,xI,h6,xJ,_⟩:=UB w (.int .i64 0) (.int .i64 0) (.int .u64 0) (.int .u64 0) (.slice none 0 0) (.slice none 0 0);have HX:Hid (∀F,Below W0.heap.size W0 F->Six F w.heap.size (.int .i64 0) (.int .i64 0) (.int .u64 0) (.int .u64 0) (.slice none 0 0) (.slice none 0 0)∧Below w.heap.size w F):=fun F hF=>⟨h6.next hF,Qa xJ hF⟩
 have HW:Hid (w.heap.size<W0.heap.size):=h6.lt;clear hr h6 xJ
 go_enter func62,ntmps62
 go_upto_region 1 with (fail)
 try rw[xI]
 clear xI
 go_upto_region 2 with (go_at_call 113;with_reducible refine(HR.out _).mono ?_;rintro x w1 ⟨kd,k,old,size,sa,sl,sc,da,dl,dc,b,rfl,xF,HQ⟩)
 obtain⟨F,hF,h7,xA,_⟩:=UB w1 (.int .i64 kd) (.int .i64 k) (.int .u64 old) (.int .u64 size) (.slice sa sl sc) (.slice da dl dc)
 try rw[hF]
 clear hF HR;have xD:=Qa xF xA;obtain⟨x6,xb⟩:=HX.out _ xD;obtain⟨c0,c1,c2,c3,c4,c5⟩:=x6.cells;have fz:=x6.fz
 rcases HQ.out with ⟨rfl,hn⟩|⟨rfl,Q,sb,db,rfl,rfl,rfl,rfl,rfl,rfl,rq,⟨ow1,ow2⟩,hq⟩
 ·have hp:=x6.put (.int .i64 0) (.int .i64 0) (.int .u64 0) (.int .u64 0) (.slice none 0 0) (.slice none 0 0);have hc:=Yy F w.heap.size (.int .i64 0) (.int .i64 0) (.int .u64 0) (.int .u64 0) (.slice none 0 0) (.slice none 0 0);unfold Jy at hp hc;have HN:=Qg hn;have HB:Hid (Below w.heap.size w F):=xb;clear HQ hn x6 xb xF xA xD h7;go_wp2;obtain⟨s0,s1,s2,s3,s4,s5⟩:=hp.cells;refine Lv (v := .tuple #[.agg #[.int .i64 0,.int .i64 0,.int .u64 0,.int .u64 0,.slice none 0 0,.slice none 0 0],.int .i64 140]) (by simp[results,results62,go_sem,s0,s1,s2,s3,s4,s5]) rfl ?_
  exact .inl ⟨HN.out,rfl,HB.out.trans (hc.below (by rintro b rfl;omega))⟩
 ·have HE:=QdI F sa sb 0 sc da db 0 dc Q (rq.next xA);simp only[pvP,pv6] at HE;obtain⟨m0,m1,m2,m3,m4,m5⟩:=h7.cells;have HY:Hid (∀G,Below F.heap.size F G->RdPC G sa sb 0 sc da db 0 dc Q∧Six G w1.heap.size (.int .i64 Q.kd) (.int .i64 Q.k) (.int .u64 (Q.old:Int)) (.int .u64 (Q.size:Int)) (.slice sa Q.S.length sc) (.slice da Q.D.length dc)∧Below W0.heap.size W0 G∧Cv.Own G W0.heap.size (.slice sa Q.S.length sc) Q.S∧Qi G W0.heap.size (.slice da Q.D.length dc) Q.D):=fun G hG=>⟨(rq.next xA).next hG,h7.next hG,Qa xD hG,Cv.QcE (Cv.QcE ow1 xA) hG,Qv (Qv ow2 xA (La _)) hG (La _)⟩
  have HD:=Qg hq;clear HQ hq rq ow1 ow2 h7 x6 xb xF xA xD c0 c1 c2 c3 c4 c5 fz
  go_upto_region 5 with (go_at_call 114;with_reducible refine HE.mono ?_;rintro x w3 ⟨rfl,xG⟩)
  obtain⟨y1,y2,y3,y4,y5⟩:=HY.out _ xG;obtain⟨x6,xb⟩:=HX.out _ y3;obtain⟨c0,c1,c2,c3,c4,c5⟩:=x6.cells;have fz:=x6.fz;have HB:Hid (Below w.heap.size w w3):=xb;clear m0 m1 m2 m3 m4 m5 HE xb
  by_cases hgd:Yk Q∧encS Q=s
  ·obtain⟨hw,xE⟩:=hgd;have xH:encE Q=0:=by rw[encE,Lk hw]
   have xK:dec s.data.toList=some Q:=by
    have h1:=QgO hw;rw[encS,Lk hw] at xE;rw[<-xE,QgJ];exact h1
   obtain⟨m0,m1,m2,m3,m4,m5⟩:=y2.cells;have hp:=x6.put (.int .i64 Q.kd) (.int .i64 Q.k) (.int .u64 (Q.old:Int)) (.int .u64 (Q.size:Int)) (.slice sa Q.S.length sc) (.slice da Q.D.length dc);have hc:=Yy w3 w.heap.size (.int .i64 Q.kd) (.int .i64 Q.k) (.int .u64 (Q.old:Int)) (.int .u64 (Q.size:Int)) (.slice sa Q.S.length sc) (.slice da Q.D.length dc);have xC : ∃sb' db',RdPC (Jy w3 w.heap.size (.int .i64 Q.kd) (.int .i64 Q.k) (.int .u64 (Q.old:Int)) (.int .u64 (Q.size:Int)) (.slice sa Q.S.length sc) (.slice da Q.D.length dc)) sa sb' 0 sc da db' 0 dc Q:=by
    have z1:Cv.Own (Jy w3 w.heap.size (.int .i64 Q.kd) (.int .i64 Q.k) (.int .u64 (Q.old:Int)) (.int .u64 (Q.size:Int)) (.slice sa Q.S.length sc) (.slice da Q.D.length dc)) W0.heap.size (.slice sa Q.S.length sc) Q.S:=QZ y4 fun g _ hB=>hc.block g (by have:=HW.out;show ¬_=_;omega)
    have z2:Qi (Jy w3 w.heap.size (.int .i64 Q.kd) (.int .i64 Q.k) (.int .u64 (Q.old:Int)) (.int .u64 (Q.size:Int)) (.slice sa Q.S.length sc) (.slice da Q.D.length dc)) W0.heap.size (.slice da Q.D.length dc) Q.D:=QZ y5 fun g _ hB=>hc.block g (by have:=HW.out;show ¬_=_;omega)
    obtain⟨ao,b',c',xM,u1,_⟩:=Jx z1;obtain⟨bo,d',f',xN,u2,u3,_⟩:=QR z2 y1.rd.sz;injection xM with g1 g2 g3
    injection xN with g4 g5 g6
    subst g1 g4;exact⟨b',d',u1,u2,y1.old64,y1.sz64,y1.mS,y1.mD,y1.cD⟩
   obtain⟨sb',db',xC⟩:=xC;unfold Jy at hp hc xC;have HN:=Qg xK;have xL:=Qg xC;rw[xE,xH];clear hw xE xH xK x6 y1 y2 y3 y4 y5 xG xC HY HD;go_wp2;obtain⟨s0,s1,s2,s3,s4,s5⟩:=hp.cells;refine Lv (v := .tuple #[.agg #[.int .i64 Q.kd,.int .i64 Q.k,.int .u64 (Q.old:Int),.int .u64 (Q.size:Int),.slice sa Q.S.length sc,.slice da Q.D.length dc],.int .i64 0]) (by simp[results,results62,go_sem,s0,s1,s2,s3,s4,s5]) rfl ?_
   exact .inr ⟨Q,sa,sb',sc,da,db',dc,HN.out,rfl,xL.out,HB.out.trans (hc.below (by rintro b rfl;omega))⟩
  ·have hn:dec s.data.toList=none:=by
    rcases hdd:dec s.data.toList with _|P
    ·rfl
    ·obtain rfl:=HD.out P hdd;obtain⟨g1,g2,_⟩:=QgQ hdd;exact absurd ⟨g1,by rw[encS,Lk g1,g2,QlA]⟩ hgd
   have hp:=x6.put (.int .i64 0) (.int .i64 0) (.int .u64 0) (.int .u64 0) (.slice none 0 0) (.slice none 0 0);have hc:=Yy w3 w.heap.size (.int .i64 0) (.int .i64 0) (.int .u64 0) (.int .u64 0) (.slice none 0 0) (.slice none 0 0);unfold Jy at hp hc;have HN:=Qg hn;have xB:encE Q=150∨(encE Q=0∧encS Q≠s):=by
    by_cases hw:Yk Q
    ·exact .inr ⟨by rw[encE,Lk hw],fun h=>hgd ⟨hw,h⟩⟩
    ·exact .inl (by rw[encE,Le hw])
   clear hn x6 y1 y2 y3 y4 y5 xG HY HD hgd
   rcases xB with hE|⟨hE,hne⟩
   ·rw[hE];clear hE;generalize encS Q=sq;go_wp2;obtain⟨s0,s1,s2,s3,s4,s5⟩:=hp.cells;refine Lv (v := .tuple #[.agg #[.int .i64 0,.int .i64 0,.int .u64 0,.int .u64 0,.slice none 0 0,.slice none 0 0],.int .i64 140]) (by simp[results,results62,go_sem,s0,s1,s2,s3,s4,s5]) rfl ?_
    exact .inl ⟨HN.out,rfl,HB.out.trans (hc.below (by rintro b rfl;omega))⟩
   ·rw[hE];clear hE;generalize encS Q=sq at hne ⊢;have xO:(sq.toList == s.toList)=false:=QlB hne;clear hne;go_wp2;obtain⟨s0,s1,s2,s3,s4,s5⟩:=hp.cells;refine Lv (v := .tuple #[.agg #[.int .i64 0,.int .i64 0,.int .u64 0,.int .u64 0,.slice none 0 0,.slice none 0 0],.int .i64 140]) (by simp[results,results62,go_sem,s0,s1,s2,s3,s4,s5]) rfl ?_
    exact .inl ⟨HN.out,rfl,HB.out.trans (hc.below (by rintro b rfl;omega))⟩
structure AsV where
 n:Nat
 sa:OA
 sb:Nat
 so:Nat
 sc:Nat
 set:List Nat
structure RdAs(w:World)(ao:OA)(b off len:Nat)(l:Nat->AsV):Prop where
 ptr:0<len->ao=some ⟨b,off,none⟩
 cell : ∀j,j<len->w.cell? ⟨b,off+(j*9+3),none⟩=some (.int .u64 ((l j).n:Int))∧w.cell? ⟨b,off+(j*9+5),none⟩=some (.slice (l j).sa (l j).set.length (l j).sc)∧RdU w (l j).sa (l j).sb (l j).so (l j).set.length (l j).set∧(l j).set.length<=maxLen∧(l j).n<18446744073709551616
theorem RdAs.two{w W:World}{ao:OA}{b off len:Nat}{l:Nat->AsV}(h:RdAs w ao b off len l)(hb:Below w.heap.size w W){j:Nat}(hj:j<len){a:Nat}(ha:off+j*9=a) :
  W.cell? ⟨b,a+3,none⟩=some (.int .u64 ((l j).n:Int))∧W.cell? ⟨b,a+5,none⟩=some (.slice (l j).sa (l j).set.length (l j).sc):=by
 obtain⟨h0,h1,_⟩:=h.cell j hj;have xA:b<w.heap.size:=Ln _ _ h0;subst ha;exact⟨(hb.cell (p:=⟨b,_,none⟩) xA).trans h0,(hb.cell (p:=⟨b,_,none⟩) xA).trans h1⟩
theorem Qh3{k:Int}(k1:1<=k)(k2:k<=32)(L:LB){n:Nat}(hn:n<=1000){S:List Nat}(he:Cv.QG n S=0):(enc (pvB k L n S)).length<=1000000:=by
 have hw:=Ou k1 k2 L (n:=n) (by omega) he
 have hc:=(Cv.Yw he).2.2.2;have hl:=JK hc;have hr:=QdS (n:=n) (by omega) hc
 have h1:=QD (n:=n) (by omega)
 have h2:=QD (n:=S.length) (by omega)
 have h3:=Qby hc (by omega)
 have xA:(clk k:Int)=k:=by unfold clk;rw[Le (by omega),Le (by omega)];omega
 have hf:(Qu (dgB (clk k) L n S)).length=(dgB (clk k) L n S).length*clk k:=OH (fun d hd=>Qbi (by omega) L n S d hd)
 have hq:(dgB (clk k) L n S).length*clk k<=1000*32:=Nat.mul_le_mul (by rw[Qc9];omega) (by omega)
 have e:(enc (pvB k L n S)).length=(hd (pvB k L n S)).length+(Qu (dgB (clk k) L n S)).length:=by rw[QfJ,Lc];rfl
 have hh:(hd (pvB k L n S)).length<=100000:=by
  have hm:(mid (pvB k L n S)).length<=20000:=by
   show(mid ⟨2,k,0,n,S,dgB (clk k) L n S⟩).length<=_
   unfold mid;rw[Le (show ¬(2:Int)=1 by decide),Lk rfl,Lc]
   show(num S.length).length+(Qj 0 S).length<=_
   omega
  unfold hd;rw[LE,LE,Lc];have:(num (pvB k L n S).size).length<=10:=h1;omega
 omega
theorem Qgb{k:Int}(k1:1<=k)(k2:k<=32)(L:LB){n:Nat}(hn:n<=1000){S:List Nat}(he:Cv.QG n S=0)(s:BA)(hs:(⟨(enc (pvB k L n S)).toArray⟩:BA)=s)(W:World) :
  Calls prog 62 #[.string s] W fun e w' => ∃sa sl sc da dl dc,e = .returned (.tuple #[.agg #[.int .i64 2,.int .i64 k,.int .u64 0,.int .u64 (n:Int),.slice sa sl sc,.slice da dl dc],.int .i64 0])∧Below W.heap.size W w':=by
 have xA:=Qh3 k1 k2 L hn he;have hd:dec s.data.toList=some (pvB k L n S):=by
  rw[<-hs,show(⟨(enc (pvB k L n S)).toArray⟩:BA).data.toList=enc (pvB k L n S) by simp]
  exact QgO (Ou k1 k2 L (by omega) he)
 have hz:s.size<=8796093021952:=by
  rw[<-hs]
  show(enc (pvB k L n S)).toArray.size<=_
  rw[NG];omega
 refine(Qgc s (fun w=>QiH s hz w) W).mono fun e w' z => ?_
 rcases z with ⟨z1,_⟩|⟨P,sa,sb,sc,da,db,dc,z1,z2,_,z3⟩
 ·rw[hd] at z1;cases z1
 ·rw[hd] at z1
  cases z1;exact⟨_,_,_,_,_,_,z2,z3⟩
theorem Qhz{w9 w10:World}{x y:Value}{T:Nat}(v:Below (w9.alloc (.cells #[x,y] T)).heap.size (w9.alloc (.cells #[x,y] T)) w10):(w10.alloc (.cells #[x,y] T)).cell? ⟨w9.heap.size,0,none⟩=some x∧(w10.alloc (.cells #[x,y] T)).cell? ⟨w9.heap.size,1,none⟩=some y:=by
 have k0:=(Qa v (bal (Lb _ _) (.cells #[x,y] T))).block w9.heap.size (by simp)
 rw[LH] at k0;exact⟨by rw[cell_of_row _ _ 0 _ _ (0,0) k0];rfl,by rw[cell_of_row _ _ 1 _ _ (0,0) k0];rfl⟩
section
variable {w W W1:World} {a p:Nat} {U:Nat->Prop} {D D':St.DV} {S S':St.SV} {L L' K:LB} {v:Value}
theorem Qf1(w:World)(ht:Tb w)(hT:Tr w)(h:Lg w 0 a p U D S L)(he:S.ends.length=L.length)(hg : ∀i x,L[i]? = some x->gtD D S L i=(x,0))(ao:OA)(b len cap:Nat)(hr:RdS w ao b 0 len L)(hz:len<=100)(hlc:len<=cap)(hsz : ∀s∈L,s.size<=1048576)(k1:1<=S.k)(k2:S.k<=32)
  (qo:OA) (qb qoff qn qc:Nat) (ql:Nat->AsV) (hq:RdAs w qo qb qoff qn ql) (hqm:qn<=9223372036854775807) (hqa : ∀j,j<qn->0<(ql j).set.length -> ¬U (ql j).sb) :
  Calls prog 23 #[.pointer (some ⟨a,0,none⟩),.int .i64 (S.k:Int),.slice ao len cap,.slice qo qn qc] w fun e w'=>e = .returned (.bool true)∧Below w.heap.size w w':=by
 have hl:=hr.hl;obtain⟨k,hk⟩ : ∃k,S.k=k:=⟨_,rfl⟩;have yN:(clk (k:Int):Int)=k:=by unfold clk;rw[Le (by omega),Le (by omega)];omega
 have xH:clk (k:Int)=k:=by omega
 obtain⟨r,yO⟩:=Ze (min qn 30);have xY:r<=30∧r<=qn∧(r=30∨r=qn):=by omega
 have HS:Hid (Calls prog 33 #[.pointer (some ⟨a,0,none⟩)] w fun e w'=>e = .returned (.tuple #[.int .u64 (len:Int),.int .i64 0])∧Below w.heap.size w w'):=Qih w h len (by omega)
 have HG:Hid (∀(W:World) (i:Nat) (x:BA),Below w.heap.size w W->i<len->L[i]? = some x->Calls prog 39 #[.pointer (some ⟨a,0,none⟩),.int .u64 (i:Int)] W fun e w'=>e = .returned (.tuple #[.string x,.int .i64 0])∧Below w.heap.size w w'):=fun W i x hW hi hx=>(QbD W (ht.next hW) (h.next hW) he i (by omega) x 0 (hg i x hx)).mono fun e w' z=>⟨z.1,Qa hW z.2⟩
 have yA:Hid (∀(W:World),Below w.heap.size w W->Calls prog 39 #[.pointer (some ⟨a,0,none⟩),.int .u64 (len:Int)] W fun e w'=>e = .returned (.tuple #[.string ⟨#[]⟩,.int .i64 31])∧Below w.heap.size w w'):=fun W hW=>(QbD W (ht.next hW) (h.next hW) he len (by omega) ⟨#[]⟩ 31 (Qn4 he (by omega))).mono fun e w' z=>⟨z.1,Qa hW z.2⟩
 have HR:Hid (∀W,Below w.heap.size w W->RdS W ao b 0 len L):=fun W hW=>hr.next hW (La _)
 have xP:Hid (∀(W:World) (n:Nat) (x:BA),Below w.heap.size w W->n<=len->rtD k L n=x->Calls prog 20 #[.pointer (some ⟨a,0,none⟩),.int .u64 (n:Int)] W fun e w'=>e = .returned (.tuple #[.agg #[.int .u64 (n:Int),.string x],.int .i64 0])∧Below w.heap.size w w'):=fun W n x hW hn hx=>(Qkc W (ht.next hW) (h.next hW) n (by omega) x (by rw[hk];exact hx)).mono fun e w' z=>⟨z.1,Qa hW z.2⟩
 have xO:Hid (∀(W:World) (n:Nat),Below w.heap.size w W->len<n->Calls prog 20 #[.pointer (some ⟨a,0,none⟩),.int .u64 (n:Int)] W fun e w'=>e = .returned (.tuple #[.agg #[.int .u64 0,.string ⟨#[]⟩],.int .i64 30])∧Below w.heap.size w w'):=fun W n hW hn=>(Qkb W (ht.next hW) (h.next hW) n (by omega)).mono fun e w' z=>⟨z.1,Qa hW z.2⟩
 have xM:Hid (∀(W:World) (n:Nat) (x:BA),Below w.heap.size w W->n<=len->rtD k L n=x->Calls prog 21 #[.int .i64 (k:Int),.slice ao len cap,.int .u64 (n:Int)] W fun e w'=>e = .returned (.tuple #[.agg #[.int .u64 (n:Int),.string x],.int .i64 0])∧Below W.heap.size W w'):=fun W n x hW hn hx=>QkV W (hT.next hW) k (by omega) (by omega) ao b 0 len cap L (hr.next hW (La _)) (fun s hs=>by have:=hsz s hs;omega) (by omega) hlc n hn x (Qd (by rw[xH];exact hx))
 have xL:Hid (∀(W:World) (n:Nat),len<n->Calls prog 21 #[.int .i64 (k:Int),.slice ao len cap,.int .u64 (n:Int)] W fun e w'=>e = .returned (.tuple #[.agg #[.int .u64 0,.string ⟨#[]⟩],.int .i64 30])∧Below W.heap.size W w'):=fun W n hn=>Qgv W k (by omega) (by omega) ao len cap n hn (by omega)
 have xU : ∀j,j<qn->0<(ql j).set.length->(ql j).sb≠a:=fun j hj h0 e=>hqa j hj h0 (e ▸ h.own)
 have xK:Hid (∀(W:World) (j:Nat),Below w.heap.size w W->j<qn->(ql j).n<=len->Cv.QG (ql j).n (ql j).set=0 -> ∃s,(∀W,Calls prog 62 #[.string s] W fun e w' => ∃sa sl sc da dl dc,e = .returned (.tuple #[.agg #[.int .i64 2,.int .i64 (k:Int),.int .u64 0,.int .u64 ((ql j).n:Int),.slice sa sl sc,.slice da dl dc],.int .i64 0])∧Below W.heap.size W w')∧Calls prog 38 #[.pointer (some ⟨a,0,none⟩),.int .u64 ((ql j).n:Int),.slice (ql j).sa (ql j).set.length (ql j).sc] W fun e w'=>e = .returned (.tuple #[.string s,.int .i64 0])∧Below w.heap.size w w'):=fun W j hW hj hn hs=>by
  obtain⟨_,_,q3,q4,_⟩:=hq.cell j hj;refine⟨_,fun W=>Qgb (by omega) (by omega) L (by omega) hs _ rfl W,?_⟩
  have:=QcB W (ht.next hW) (h.next hW) (by omega) (ql j).n (by omega) (ql j).sa (ql j).sb (ql j).so (ql j).set.length (ql j).sc (ql j).set (q3.next hW) (xU j hj) hs
  rw[hk] at this;exact this.mono fun e w' z=>⟨z.1,Qa hW z.2⟩
 have xJ:Hid (∀(W:World) (j:Nat) (e0:Nat),Below w.heap.size w W->j<qn->(if len<(ql j).n then 30 else Cv.QG (ql j).n (ql j).set)=e0->e0≠0->Calls prog 38 #[.pointer (some ⟨a,0,none⟩),.int .u64 ((ql j).n:Int),.slice (ql j).sa (ql j).set.length (ql j).sc] W fun e w'=>e = .returned (.tuple #[.string ⟨#[]⟩,.int .i64 (e0:Int)])∧Below w.heap.size w w'):=fun W j e0 hW hj hs h0=>by
  obtain⟨_,_,q3,q4,_⟩:=hq.cell j hj;exact(Qif W (ht.next hW) (h.next hW) (ql j).n (ql j).sa (ql j).sb (ql j).so (ql j).set.length (ql j).sc (ql j).set (q3.next hW) q4 (xU j hj) e0 (by rw[hl];exact hs) h0).mono fun e w' z=>⟨z.1,Qa hW z.2⟩
 have HQ:=Qd hq;have xX:=hr.ptr;have xI:=hq.ptr;have xT:IntKind.u64.wrap (len:Int)=(len:Int):=by rw[IntKind.wrap_u64];omega
 rw[hk];clear ht hT h he hg hr hq xU hqa k1 k2 hk yN xH hsz hlc yO
 go_enter func23,ntmps23
 go_upto_region 5 with (go_at_call 33;(with_reducible refine HS.out.mono ?_);rintro e w1 ⟨rfl,u1⟩)
 have yC:=Qd u1;clear xT u1 HS
 go_loopg [11] len (fun g x wr => ∃j:Nat,j<=len∧g=len - j∧x = .int .i64 (j:Int)∧Hid (Below w.heap.size w wr))
 case atStart=>go_light;exact⟨0,Ll _,rfl,rfl,yC⟩
 case round =>
  clear yC;obtain⟨j,hj,rfl,rfl,HB⟩:=hrel
  by_cases hlt:j<len
  ·have yK:(j:Int)<(len:Int):=by omega
   obtain rfl:=xX (by omega)
   obtain⟨x,hx⟩ : ∃x,L[j]? = some x:=⟨_,Lh (by omega)⟩
   have yI:L.getD j ByteArray.empty=x:=by rw[Ld,hx];rfl
   have xN:=Qd (HG.out wr j x HB.out hlt hx);have HC:Hid (∀W,Below w.heap.size w W->W.cell? ⟨b,j,none⟩=some (.string x)):=fun W hW=>by
    have:=(HR.out W hW).at hlt
    rwa [yI,Lm] at this
   have HW:Hid (IntKind.u64.wrap (j:Int)=(j:Int)∧IntKind.i64.wrap ((j:Int)+1)=((j+1:Nat):Int)):=⟨by rw[IntKind.wrap_u64];omega,by rw[Lr];omega⟩
   clear hx yI HR HG hl;obtain⟨yE,yF⟩:=HW.out
   go_upto_region 8 with (go_at_call 39;(with_reducible refine xN.out.mono ?_);rintro e w2 ⟨rfl,u2⟩)
   have c2:=HC.out w2 u2;have yJ:(!(x.toList == x.toList))=false:=by simp
   clear HC;go_wp2
   go_roundg (len - (j+1))
   case rel=>go_light;clear yE yF;exact⟨j+1,by omega,rfl,rfl,u2⟩
   case measure=>go_light;clear yE yF;omega
  ·have yK : ¬(j:Int)<(len:Int):=by omega
   have xT:IntKind.u64.wrap (len:Int)=(len:Int):=by rw[IntKind.wrap_u64];omega
   have xN:=Qd (yA.out wr HB.out);clear HG yA hj hlt HB
   go_upto_region 14 with (go_at_call 39;(with_reducible refine xN.out.mono ?_);rintro e w2 ⟨rfl,u2⟩)
   have yD:=Qd u2;clear xT u2 xN yK;clear wr
   go_loopg [14] r (fun g x wr => ∃i:Nat,i<=r∧g=r - i∧x = .int .i64 (i:Int)∧Hid (Below w.heap.size w wr))
   case atStart=>go_light;exact⟨0,Ll _,rfl,rfl,yD⟩
   case round =>
    clear yD;obtain⟨i,hi,rfl,rfl,HB⟩:=hrel
    by_cases hlt:i<r
    ·have hz:(i:Int)<(qn:Int):=by omega
     have yQ:(i:Int)<30:=by omega
     have xW:i<qn:=by omega
     obtain rfl:=xI (by omega)
     obtain⟨c,hc⟩:=Ze (qoff+i*9);have HC:Hid (∀W,Below w.heap.size w W->W.cell? ⟨qb,c+3,none⟩=some (.int .u64 ((ql i).n:Int))∧W.cell? ⟨qb,c+5,none⟩=some (.slice (ql i).sa (ql i).set.length (ql i).sc)):=fun W hW=>HQ.out.two hW xW hc
     have ew:IntKind.i64.wrap ((i:Int)+1)=(i:Int)+1:=by rw[Lr];omega
     have xB:=Qd (fun W hW=>xK.out W i hW xW)
     have xA:=Qd (fun W e0 hW=>xJ.out W i e0 hW xW)
     generalize ql i=q at *;obtain⟨n,sa,sb,so,sc,set⟩:=q;simp only at HC xB xA;obtain⟨sn,yP⟩:=Ze set.length;rw[yP] at HC xB xA;have c0:=(HC.out wr HB.out).1
     by_cases hn:n<=len
     ·obtain⟨x,hx⟩:=Ze (rtD k L n);have xG:=Qd (xP.out wr n x HB.out hn hx);have xF:=Qd (fun W hW=>xM.out W n x hW hn hx)
      have xE:Hid (∀W,Below w.heap.size w W->W.cell? ⟨qb,c+3,none⟩=some (.int .u64 (n:Int))):=fun W hW=>(HC.out W hW).1
      have yJ:(!(x.toList == x.toList))=false:=by simp
      clear xP xO xM xL xK xJ HQ HR hx
      go_upto_region 17 with (go_at_call 20;(with_reducible refine xG.out.mono ?_);rintro e w2 ⟨rfl,u2⟩;have c1:=xE.out _ (bal u2 (.cells #[.int .u64 (n:Int),.string x] 50)))
      go_upto_region 18 with (go_at_call 21;(with_reducible refine(xF.out _ (bal u2 _)).mono ?_);rintro e w3 ⟨rfl,u3⟩)
      obtain⟨k1,k2⟩:=Qhz u3;have xD:=Qd (bal (Qa (bal u2 (.cells #[.int .u64 (n:Int),.string x] 50)) u3) (.cells #[.int .u64 (n:Int),.string x] 50));clear xG xF c0 c1 u2 u3
      go_upto_region 20 with (fail)
      have xQ:=HC.out _ xD.out
      by_cases hs:Cv.QG n set=0
      ·obtain⟨t,yG,yH⟩:=xB.out _ (St.bdw xD.out) hn hs;have yB:=Qd yG;have xC:=Qd yH;clear yG yH xB xA hs k1 k2 xE
       go_region_held3 (fun Z=>Z.cell? ⟨qb,c+3,none⟩=some (.int .u64 (n:Int))∧Z.cell? ⟨qb,c+5,none⟩=some (.slice sa sn sc)) (first|assumption|(exact HC.out _ u5)) (first|(go_at_call 38;(with_reducible refine xC.out.mono ?_);rintro e w5 ⟨rfl,u5⟩))
       go_upto_region 23 with (go_at_call 62;(with_reducible refine(yB.out _).mono ?_);rintro e w6 ⟨ea,el,ec,da,dl,dc,rfl,u6⟩;have xZ:=Qd (bal (Qa u5 u6) (.cells #[.int .i64 2,.int .i64 (k:Int),.int .u64 0,.int .u64 (n:Int),.slice ea el ec,.slice da dl dc] 138)))
       obtain⟨c4,_⟩:=HC.out _ xZ.out;clear xQ yB xC u5 u6
       go_quiet (fail)
       go_wp2
       go_roundg (r - (i+1))
       case rel=>go_light;exact⟨i+1,by omega,rfl,by go_num,Qd (Qf xZ.out _)⟩
       case measure=>go_light;omega
      ·obtain⟨e0,xV⟩:=Ze (Cv.QG n set);have xC:=Qd (xA.out _ e0 (St.bdw xD.out) (by rw[Le (by omega)];exact xV) (by rw[<-xV];exact hs))
       have hf:(((e0:Nat):Int) == 0)=false:=by simp;omega
       clear xB xA hs k1 k2 xE xV
       go_region_held3 (fun Z=>Z.cell? ⟨qb,c+3,none⟩=some (.int .u64 (n:Int))∧Z.cell? ⟨qb,c+5,none⟩=some (.slice sa sn sc)) (first|assumption|(exact HC.out _ u5)) (first|(go_at_call 38;(with_reducible refine xC.out.mono ?_);rintro e w5 ⟨rfl,u5⟩))
       have xS:=Qd u5;clear xQ xC u5;go_wp2
       go_roundg (r - (i+1))
       case rel=>go_light;exact⟨i+1,by omega,rfl,by go_num,xS⟩
       case measure=>go_light;omega
     ·have xR:len<n:=by omega
      have xG:=Qd (xO.out wr n HB.out xR);have xF:=Qd (fun W=>xL.out W n xR)
      have xE:Hid (∀W,Below w.heap.size w W->W.cell? ⟨qb,c+3,none⟩=some (.int .u64 (n:Int))):=fun W hW=>(HC.out W hW).1
      have yJ:(!((⟨#[]⟩:BA).toList == (⟨#[]⟩:BA).toList))=false:=by simp
      clear xP xO xM xL xK xJ HQ HR
      go_upto_region 17 with (go_at_call 20;(with_reducible refine xG.out.mono ?_);rintro e w2 ⟨rfl,u2⟩;have c1:=xE.out _ (bal u2 (.cells #[.int .u64 0,.string ⟨#[]⟩] 50)))
      go_upto_region 18 with (go_at_call 21;(with_reducible refine(xF.out _).mono ?_);rintro e w3 ⟨rfl,u3⟩)
      obtain⟨k1,k2⟩:=Qhz u3;have xD:=Qd (bal (Qa (bal u2 (.cells #[.int .u64 0,.string ⟨#[]⟩] 50)) u3) (.cells #[.int .u64 0,.string ⟨#[]⟩] 50));clear xG xF c0 c1 u2 u3
      go_upto_region 20 with (fail)
      have xQ:=HC.out _ xD.out;have xC:=Qd (xA.out _ 30 (St.bdw xD.out) (by rw[Lk xR]) (by decide))
      clear xB xA k1 k2 xE hn xR
      go_region_held3 (fun Z=>Z.cell? ⟨qb,c+3,none⟩=some (.int .u64 (n:Int))∧Z.cell? ⟨qb,c+5,none⟩=some (.slice sa sn sc)) (first|assumption|(exact HC.out _ u5)) (first|(go_at_call 38;(with_reducible refine xC.out.mono ?_);rintro e w5 ⟨rfl,u5⟩))
      have xS:=Qd u5;clear xQ xC u5;go_wp2
      go_roundg (r - (i+1))
      case rel=>go_light;exact⟨i+1,by omega,rfl,by go_num,xS⟩
      case measure=>go_light;omega
    ·obtain rfl:i=r:=by omega
     have yM : ¬((i:Int)<(qn:Int))∨(((i:Int)<(qn:Int)) ∧ ¬(i:Int)<30):=by omega
     have yL:=HB;clear HB xP xO xM xL xK xJ HQ HR hi hlt xY
     rcases yM with hz|⟨hz,yQ⟩
     all_goals
      go_wp2
      go_ret
      exact⟨rfl,yL.out⟩
end
def Jd(w W:World)(p:Nat)(D:St.DV)(v:Value)(K:LB):Prop :=
 ∃Sd,St.Dsk W p Sd D∧(∀b,Sd b->w.heap.size<=b)∧Below w.heap.size w W∧Qi W w.heap.size v K ∧ ∀g,v.ownBlock=some g -> ¬Sd g
section
variable {w W W1:World} {a p:Nat} {D D':St.DV} {S S':St.SV} {L L' K:LB} {v:Value}
theorem Jn.jd(h:Jn w W a p D S L v K):Jd w W p D v K:=by
 obtain⟨U,⟨q,m,r,vr,vs,T,h1,hU,_⟩,h2,h3,h4,h5⟩:=h;obtain⟨Sd,u,d1,d2,d3,d4,d5⟩:=h1.sk;exact⟨Sd,d1,fun b hb=>h2 b ((hU b).2 (.inl ((d5 b).2 (.inl hb)))),h3,h4,fun g hg hs=>h5 g hg ((hU g).2 (.inl ((d5 g).2 (.inl hs))))⟩
theorem Jd.open(ht:Tb w)(h:Jd w W p D v K)(hrm:St.Rm 7 D)(k:Int)(hl:loD D k=(D',some (S',L'),0)) :
  Calls prog 11 #[.pointer (some ⟨p,0,none⟩),.int .i64 k] W fun e w' => ∃a,e = .returned (.tuple #[.pointer (some ⟨a,0,none⟩),.int .i64 0])∧Jn w w' a p D' S' L' v K∧S'.ends.length=L'.length:=by
 obtain⟨Sd,h1,h2,h3,h4,h5⟩:=h;refine(Qas W (ht.next h3) h1 hrm (fun e=>by have:=ht.lt;have:=h2 _ e;omega) k).mono fun e w' z => ?_
 rw[hl] at z;obtain⟨a,U,z1,z2,z3,z4,z5,z6⟩:=z;refine⟨a,z1,⟨U,z2,fun b hb=>(z3 b hb).elim (h2 b) (fun e=>Lu h3.size e),h3.trans (z5.below h3.size h2),St.QF h4 fun g hg=>z5.block g (UE h4 hg) (h5 g hg),fun g hg e => ?_⟩,z6⟩
 rcases z3 g e with e|e
 ·exact h5 g hg e
 ·have:=UE h4 hg;omega
end
theorem RdAs.next{w W:World}{ao:OA}{b off len:Nat}{l:Nat->AsV}(h:RdAs w ao b off len l)(hb:Below w.heap.size w W):RdAs W ao b off len l:=⟨h.ptr,fun j hj=>by
 obtain⟨q1,q2⟩:=h.two hb hj rfl;obtain⟨_,_,q3,q4,q5⟩:=h.cell j hj;exact⟨by rw[<-Ni];exact q1,by rw[<-Ni];exact q2,q3.next hb,q4,q5⟩⟩
theorem Qob{R:Nat}{k:Int}(hk:k<1∨32<k):loD (St.YU R) k=(St.YU R,none,70):=by
 have:St.YX (St.YU R) k=(St.YU R,none,70):=by
  unfold St.YX;rw[Lk (by omega)]
 unfold loD;rw[this]
def LdT(w W:World)(a p:Nat)(v:Value)(k i:Nat)(K:LB)(D:St.DV):Prop :=
 Jn w W a p D (St.sA k (itL k K)) K v K∧K.length<=i∧(∀s∈K,s.size<=1048576)∧St.Qt 134217728 D∧St.Ext k (itL k K) D.L∧D.acts<=6+6*i∧1<=k∧k<=32
theorem Qdl{k:Nat}{K:LB}(k1:1<=k)(k2:k<=32)(h1:K.length<=61)(h2 : ∀s∈K,s.size<=1048576):Fit k 134217728 1048576 K :=
 ⟨k1,k2,by decide,by omega,h2,by omega,by decide⟩
theorem Qmd{K:LB}{x:BA}{c:Nat}(h2 : ∀s∈K,s.size<=c)(hx:x.size<=c) : ∀s∈K++[x],s.size<=c:=fun s hs=>by
 rcases List.mem_append.1 hs with e|e
 ·exact h2 s e
 ·rw[List.mem_singleton] at e;subst e;exact hx
section
variable {w W W1:World} {a p i k:Nat} {v:Value} {K:LB} {D:St.DV}
theorem LdT.own(h:LdT w W a p v k i K D):Qi W w.heap.size v K:=h.1.own
theorem LdT.below(h:LdT w W a p v k i K D):Below w.heap.size w W:=h.1.nl.below
theorem LdT.one(h:LdT w W a p v k i K D)(ht:Tb w)(hi:i<60)(x:BA)(hx:x.size<=1048576) :
  ∃D',Calls prog 14 #[.pointer (some ⟨a,0,none⟩),.slice (some ⟨W.heap.size,0,none⟩) 1 1] (W.alloc (.cells #[.string x] 9)) (fun e w'=>e = .returned (.tuple #[.int .i64 1,.int .i64 0])∧Jn w w' a p D' (St.sA k (itL k (K++[x]))) (K++[x]) v K) ∧
   ∀W' v',Jn w W' a p D' (St.sA k (itL k (K++[x]))) (K++[x]) v' (K++[x])->LdT w W' a p v' k (i+1) (K++[x]) D':=by
 obtain⟨h1,h2,h3,h4,h5,h6,k1,k2⟩:=h;have hs:=Qmd h3 hx;have hl:(K++[x]).length=K.length+1:=by simp
 have hf:=Qdl (K:=K++[x]) k1 k2 (by omega) hs
 obtain⟨D',a1,a2,a3,a4,a5⟩:=Qjb [x] K D hf h4 h5 (by simp only[List.length_cons,List.length_nil];omega)
 refine⟨D',?_,fun W' v' hJ=>⟨hJ,by omega,hs,a2,a3,by rw[a4];simp only[List.length_cons,List.length_nil];omega,k1,k2⟩⟩
 exact h1.append ht (QdW hf.init) (bal (Lb _ _) _) _ W.heap.size 1 1 [x] (Uy W x (by omega)) (by decide) (fun _ => .inr (La _)) a5 1 0 a1
theorem LdT.long(h:LdT w W a p v k i K D)(ht:Tb w)(hi:i<60)(x:BA)(hx:1048576<x.size)(hx2:x.size<=9223372036854775807) :
  Calls prog 14 #[.pointer (some ⟨a,0,none⟩),.slice (some ⟨W.heap.size,0,none⟩) 1 1] (W.alloc (.cells #[.string x] 9)) (fun e w'=>e = .returned (.tuple #[.int .i64 0,.int .i64 100])∧LdT w w' a p v k (i+1) K D):=by
 obtain⟨h1,h2,h3,h4,h5,h6,k1,k2⟩:=h;have hf:=Qdl (K:=K) k1 k2 (by omega) h3
 have hA:aD D (St.sA k (itL k K)) K x=(D,St.sA k (itL k K),K,100):=by unfold aD;rw[Lk hx]
 have hP:apD D (St.sA k (itL k K)) K [x]=(D,St.sA k (itL k K),K,0,100):=by
  rw[apD,hA];rfl
 have hR:RmA D (St.sA k (itL k K)) K [x]:=by
  rw[RmA,hA];exact⟨St.Qhg h4 h5.oth (by decide) (by omega),fun h=>absurd (show(100:Int)=0 from h) (by decide)⟩
 exact(h1.append ht (QdW hf) (bal (Lb _ _) _) _ W.heap.size 1 1 [x] (Uy W x hx2) (by decide) (fun _ => .inr (La _)) hR 0 100 hP).mono fun e w' z=>⟨z.1,z.2,by omega,h3,h4,h5,by omega,k1,k2⟩
theorem LdT.again(h:LdT w W a p v k i K D)(ht:Tb w)(hi:i<=60) :
  Calls prog 11 #[.pointer (some ⟨p,0,none⟩),.int .i64 (k:Int)] W fun e w' => ∃a D',e = .returned (.tuple #[.pointer (some ⟨a,0,none⟩),.int .i64 0])∧LdT w w' a p v k (i+1) K D':=by
 obtain⟨h1,h2,h3,h4,h5,h6,k1,k2⟩:=h;have hf:=Qdl (K:=K) k1 k2 (by omega) h3
 obtain⟨D',j,y1,y2,y3,y4,y5,_⟩:=St.Qhb (Qao k1 k2 hf.few hf.szs) h4 h5.beh;have hl:=QnD (hf.has y2.down y3) y1;exact(h1.jd.open ht (St.Qhg h4 h5.oth (by decide) (by omega)) k hl).mono fun e w' z=>by
  obtain⟨a,z1,z2,_⟩:=z;exact⟨a,D',z1,z2,by omega,h3,y2,y3,by omega,k1,k2⟩
theorem LdT.models{va:OA}{vn vc:Nat}(h:LdT w W a p (.slice va vn vc) k i K D)(ht:Tb w)(hT:Tr w)(hi:i<=61)
  (qo:OA) (qb qoff qn qc:Nat) (ql:Nat->AsV) (hq:RdAs w qo qb qoff qn ql) (hqm:qn<=9223372036854775807) :
  Calls prog 23 #[.pointer (some ⟨a,0,none⟩),.int .i64 (k:Int),.slice va vn vc,.slice qo qn qc] W fun e w'=>e = .returned (.bool true)∧LdT w w' a p (.slice va vn vc) k i K D:=by
 have h0:=h;obtain⟨h1,h2,h3,h4,h5,h6,k1,k2⟩:=h;have hf:=Qdl (K:=K) k1 k2 (by omega) h3
 obtain⟨ao,b,xA,q1,q2,q3,_⟩:=QR h1.own (fun s hs=>by have:=h3 s hs;omega)
 injection q1 with e1 e2 e3
 subst e1 e2 e3;have hb:=h1.nl.below;obtain⟨U,j1,j2,j3,_⟩:=h1;refine(Qf1 W (ht.next hb) (hT.next hb) j1 (QdW hf) (fun i x hx=>(hf.has h4.down h5).get rfl hx) va b _ vc q2 (by omega) q3 hf.szs k1 k2 qo qb qoff qn qc ql (hq.next hb) hqm (fun j hj h0 hu => ?_)).mono fun e w' z=>⟨z.1,h0.1.next z.2,h0.2⟩
 obtain⟨_,_,g3,_⟩:=hq.cell j hj;have:=g3.lt h0;have:=j2 _ hu;omega
end
end Go.Proofs.YtoblgjledefdbaaGreatDoor
