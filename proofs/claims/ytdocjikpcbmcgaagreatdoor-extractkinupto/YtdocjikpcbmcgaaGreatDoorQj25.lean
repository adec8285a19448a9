/- Own work. -/
import Derived.Test.YtdocjikpcbmcgaaGreatDoorQj23
set_option maxRecDepth 100000
set_option maxHeartbeats 4000000
namespace Go.Proofs.YtdocjikpcbmcgaaGreatDoor
open Go.RowKit
attribute [local go_sem ↓] Go.wp_at_zero Go.wp_at_succ
def encS(P:PV):BA:=if Y3 P then ⟨(enc P).toArray⟩ else ⟨#[]⟩
def encE(P:PV):Int:=if Y3 P then 0 else 150
theorem QdC(w:World)(sa:OA)(sb so sc:Nat)(da:OA)(db dO dc:Nat)(P:PV)(hp:RdPC w sa sb so sc da db dO dc P) :
  Zr 85 #[pvP P sa sc da dc] w (.tuple #[.string (encS P),.int .i64 (encE P)]):=by
 by_cases h:Y3 P
 ·rw[encS,encE,if_pos h,if_pos h];exact rencode_yes w sa sb so sc da db dO dc P hp h
 ·rw[encS,encE,if_neg h,if_neg h];exact QfF w sa sb so sc da db dO dc P hp h
theorem QdQ(bs:BA) : ∀(n i:Nat) (r:List UInt8),bs.size - i=n->ByteArray.toList.loop bs i r=r.reverse++bs.data.toList.drop i:=by
 intro n
 induction n with
 | zero =>
  intro i r h;rw[ByteArray.toList.loop,if_neg (by omega)]
  rw[Nb (by simp;exact(by omega:bs.size<=i)),L6]
 | succ n ih =>
  intro i r h;have hi:i<bs.size:=by omega
  rw[ByteArray.toList.loop,if_pos hi,ih (i+1) _ (by omega)]
  have hl:i<bs.data.toList.length:=by simp;exact hi
  rw[LC hl,List.reverse_cons,Lt];have:bs.get! i=bs.data.toList[i]:=by
   show bs.data[i]! = _
   have hi2:i<bs.data.size:=hi;rw[getElem!_pos bs.data i hi2];simp
  rw[this];rfl
theorem Qch(bs:BA):bs.toList=bs.data.toList:=by
 rw[ByteArray.toList,QdQ bs bs.size 0 [] rfl];rfl
theorem Qj4{x y:BA}(h:x≠y):(x.toList == y.toList)=false:=by
 rw[Qch,Qch];simp only[beq_eq_false_iff_ne,ne_eq];intro e;exact h (Io (NV.1 e))
theorem Qk0{w:World}{s:BA}{e:Ending}{w':World}(h:RdQ w s e w') : ∃(kd k old size:Int) (sa:OA) (sl sc:Nat) (da:OA) (dl dc:Nat) (b:Bool),e = .returned (.tuple #[.agg #[.int .i64 kd,.int .i64 k,.int .u64 old,.int .u64 size,.slice sa sl sc,.slice da dl dc],.bool b])∧Zb w w' ∧
  ((b=false∧dec s.data.toList=none)∨(b=true ∧ ∃Q sb db,kd=Q.kd∧k=Q.k∧old=(Q.old:Int)∧size=(Q.size:Int)∧sl=Q.S.length∧dl=Q.D.length∧RdPC w' sa sb 0 sc da db 0 dc Q∧(Cv.Own w' w.heap.size (.slice sa Q.S.length sc) Q.S∧Qk w' w.heap.size (.slice da Q.D.length dc) Q.D)∧(∀P,dec s.data.toList=some P->Q=P))):=by
 rcases h with ⟨kd,k,old,size,sa,sl,sc,da,dl,dc,rfl,h1,h2⟩|⟨Q,sa,sb,sc,da,db,dc,rfl,h1,ho,h2,h3⟩
 ·exact⟨kd,k,old,size,sa,sl,sc,da,dl,dc,false,rfl,h2,.inl ⟨rfl,h1⟩⟩
 ·exact⟨Q.kd,Q.k,Q.old,Q.size,sa,_,sc,da,_,dc,true,rfl,h3,.inr ⟨rfl,Q,sb,db,rfl,rfl,rfl,rfl,rfl,rfl,h1,ho,h2⟩⟩
def DeQ(w:World)(s:BA)(e:Ending)(w':World):Prop :=
 (dec s.data.toList=none∧e = .returned (.tuple #[.agg #[.int .i64 0,.int .i64 0,.int .u64 0,.int .u64 0,.slice none 0 0,.slice none 0 0],.int .i64 140])∧Zb w w') ∨
 (∃P sa sb sc da db dc,dec s.data.toList=some P∧e = .returned (.tuple #[pvP P sa sc da dc,.int .i64 0])∧RdPC w' sa sb 0 sc da db 0 dc P∧Zb w w')
theorem Qb1(s:BA)(hr : ∀w,Calls Tryz.prog 84 #[.string s] w (RdQ w s))(w:World):Calls Tryz.prog 39 #[.string s] w (DeQ w s):=by
 have HR:Hid (∀F,Calls Tryz.prog 84 #[.string s] F fun e w' => ∃(kd k old size:Int) (sa:OA) (sl sc:Nat) (da:OA) (dl dc:Nat) (b:Bool),e = .returned (.tuple #[.agg #[.int .i64 kd,.int .i64 k,.int .u64 old,.int .u64 size,.slice sa sl sc,.slice da dl dc],.bool b])∧Zb F w'∧Hid ((b=false∧dec s.data.toList=none)∨(b=true ∧ ∃Q sb db,kd=Q.kd∧k=Q.k∧old=(Q.old:Int)∧size=(Q.size:Int)∧sl=Q.S.length∧dl=Q.D.length∧RdPC w' sa sb 0 sc da db 0 dc Q∧(Cv.Own w' F.heap.size (.slice sa Q.S.length sc) Q.S∧Qk w' F.heap.size (.slice da Q.D.length dc) Q.D)∧(∀P,dec s.data.toList=some P->Q=P)))):=fun F=>(hr F).mono fun _ _ h=>Qk0 h
 obtain⟨W0,hW0,h6,hb0,_⟩:=Yu w (.int .i64 0) (.int .i64 0) (.int .u64 0) (.int .u64 0) (.slice none 0 0) (.slice none 0 0);have HX:Hid (∀F,Zb W0 F->Six F w.heap.size (.int .i64 0) (.int .i64 0) (.int .u64 0) (.int .u64 0) (.slice none 0 0) (.slice none 0 0)∧Zb w F):=fun F hF=>⟨h6.next hF,Qa hb0 hF⟩
 have HW:Hid (w.heap.size<W0.heap.size):=h6.lt;clear hr h6 hb0
 go_enter Tryz.func39,Tryz.ntmps39
 go_upto_region 1 with (fail)
 try rw[hW0]
 clear hW0
 go_upto_region 2 with (go_at_call 84;with_reducible refine(HR.out _).mono ?_;rintro x w1 ⟨kd,k,old,size,sa,sl,sc,da,dl,dc,b,rfl,hb1,HQ⟩)
 obtain⟨F,hF,h7,hb2,_⟩:=Yu w1 (.int .i64 kd) (.int .i64 k) (.int .u64 old) (.int .u64 size) (.slice sa sl sc) (.slice da dl dc)
 try rw[hF]
 clear hF HR;have hbF:=Qa hb1 hb2;obtain⟨x6,xb⟩:=HX.out _ hbF;obtain⟨c0,c1,c2,c3,c4,c5⟩:=x6.cells;have fz:=x6.fz
 rcases HQ.out with ⟨rfl,hn⟩|⟨rfl,Q,sb,db,rfl,rfl,rfl,rfl,rfl,rfl,rq,⟨ow1,ow2⟩,hq⟩
 ·have hp:=x6.put (.int .i64 0) (.int .i64 0) (.int .u64 0) (.int .u64 0) (.slice none 0 0) (.slice none 0 0);have hc:=QP F w.heap.size (.int .i64 0) (.int .i64 0) (.int .u64 0) (.int .u64 0) (.slice none 0 0) (.slice none 0 0);unfold QT at hp hc;have HN:=Qg hn;have HB:Hid (Zb w F):=xb;clear HQ hn x6 xb hb1 hb2 hbF h7;go_wp2;obtain⟨s0,s1,s2,s3,s4,s5⟩:=hp.cells;refine bodyPost_ret (v := .tuple #[.agg #[.int .i64 0,.int .i64 0,.int .u64 0,.int .u64 0,.slice none 0 0,.slice none 0 0],.int .i64 140]) (by simp[results,Tryz.results39,go_sem,s0,s1,s2,s3,s4,s5]) rfl ?_
  exact .inl ⟨HN.out,rfl,HB.out.trans (hc.below (by rintro b rfl;omega))⟩
 ·have HE:=QdC F sa sb 0 sc da db 0 dc Q (rq.next hb2);simp only[pvP,pv6] at HE;obtain⟨m0,m1,m2,m3,m4,m5⟩:=h7.cells;have HY:Hid (∀G,Zb F G->RdPC G sa sb 0 sc da db 0 dc Q∧Six G w1.heap.size (.int .i64 Q.kd) (.int .i64 Q.k) (.int .u64 (Q.old:Int)) (.int .u64 (Q.size:Int)) (.slice sa Q.S.length sc) (.slice da Q.D.length dc)∧Zb W0 G∧Cv.Own G W0.heap.size (.slice sa Q.S.length sc) Q.S∧Qk G W0.heap.size (.slice da Q.D.length dc) Q.D):=fun G hG=>⟨(rq.next hb2).next hG,h7.next hG,Qa hbF hG,Cv.YP (Cv.YP ow1 hb2) hG,QC (QC ow2 hb2 (Lb _)) hG (Lb _)⟩
  have HD:=Qg hq;clear HQ hq rq ow1 ow2 h7 x6 xb hb1 hb2 hbF c0 c1 c2 c3 c4 c5 fz
  go_upto_region 5 with (go_at_call 85;with_reducible refine HE.mono ?_;rintro x w3 ⟨rfl,hb3⟩)
  obtain⟨y1,y2,y3,y4,y5⟩:=HY.out _ hb3;obtain⟨x6,xb⟩:=HX.out _ y3;obtain⟨c0,c1,c2,c3,c4,c5⟩:=x6.cells;have fz:=x6.fz;have HB:Hid (Zb w w3):=xb;clear m0 m1 m2 m3 m4 m5 HE xb
  by_cases hgd:Y3 Q∧encS Q=s
  ·obtain⟨hw,hes⟩:=hgd;have hE0:encE Q=0:=by rw[encE,if_pos hw]
   have hds:dec s.data.toList=some Q:=by
    have h1:=Qkh hw;rw[encS,if_pos hw] at hes;rw[<-hes,QfT];exact h1
   obtain⟨m0,m1,m2,m3,m4,m5⟩:=y2.cells;have hp:=x6.put (.int .i64 Q.kd) (.int .i64 Q.k) (.int .u64 (Q.old:Int)) (.int .u64 (Q.size:Int)) (.slice sa Q.S.length sc) (.slice da Q.D.length dc);have hc:=QP w3 w.heap.size (.int .i64 Q.kd) (.int .i64 Q.k) (.int .u64 (Q.old:Int)) (.int .u64 (Q.size:Int)) (.slice sa Q.S.length sc) (.slice da Q.D.length dc);have hr2 : ∃sb' db',RdPC (QT w3 w.heap.size (.int .i64 Q.kd) (.int .i64 Q.k) (.int .u64 (Q.old:Int)) (.int .u64 (Q.size:Int)) (.slice sa Q.S.length sc) (.slice da Q.D.length dc)) sa sb' 0 sc da db' 0 dc Q:=by
    have z1:Cv.Own (QT w3 w.heap.size (.int .i64 Q.kd) (.int .i64 Q.k) (.int .u64 (Q.old:Int)) (.int .u64 (Q.size:Int)) (.slice sa Q.S.length sc) (.slice da Q.D.length dc)) W0.heap.size (.slice sa Q.S.length sc) Q.S:=Qj y4 fun g _ hB=>hc.block g (by have:=HW.out;show ¬_=_;omega)
    have z2:Qk (QT w3 w.heap.size (.int .i64 Q.kd) (.int .i64 Q.k) (.int .u64 (Q.old:Int)) (.int .u64 (Q.size:Int)) (.slice sa Q.S.length sc) (.slice da Q.D.length dc)) W0.heap.size (.slice da Q.D.length dc) Q.D:=Qj y5 fun g _ hB=>hc.block g (by have:=HW.out;show ¬_=_;omega)
    obtain⟨ao,b',c',hv1,u1,_⟩:=UC z1;obtain⟨bo,d',f',hv2,u2,u3,_⟩:=Qn z2 y1.rd.sz;injection hv1 with g1 g2 g3
    injection hv2 with g4 g5 g6
    subst g1 g4;exact⟨b',d',u1,u2,y1.old64,y1.sz64,y1.mS,y1.mD,y1.cD⟩
   obtain⟨sb',db',hr2⟩:=hr2;unfold QT at hp hc hr2;have HN:=Qg hds;have HR2:=Qg hr2;rw[hes,hE0];clear hw hes hE0 hds x6 y1 y2 y3 y4 y5 hb3 hr2 HY HD;go_wp2;obtain⟨s0,s1,s2,s3,s4,s5⟩:=hp.cells;refine bodyPost_ret (v := .tuple #[.agg #[.int .i64 Q.kd,.int .i64 Q.k,.int .u64 (Q.old:Int),.int .u64 (Q.size:Int),.slice sa Q.S.length sc,.slice da Q.D.length dc],.int .i64 0]) (by simp[results,Tryz.results39,go_sem,s0,s1,s2,s3,s4,s5]) rfl ?_
   exact .inr ⟨Q,sa,sb',sc,da,db',dc,HN.out,rfl,HR2.out,HB.out.trans (hc.below (by rintro b rfl;omega))⟩
  ·have hn:dec s.data.toList=none:=by
    rcases hdd:dec s.data.toList with _|P
    ·rfl
    ·obtain rfl:=HD.out P hdd;obtain⟨g1,g2,_⟩:=J9 hdd;exact absurd ⟨g1,by rw[encS,if_pos g1,g2,Qj3]⟩ hgd
   have hp:=x6.put (.int .i64 0) (.int .i64 0) (.int .u64 0) (.int .u64 0) (.slice none 0 0) (.slice none 0 0);have hc:=QP w3 w.heap.size (.int .i64 0) (.int .i64 0) (.int .u64 0) (.int .u64 0) (.slice none 0 0) (.slice none 0 0);unfold QT at hp hc;have HN:=Qg hn;have hcase:encE Q=150∨(encE Q=0∧encS Q≠s):=by
    by_cases hw:Y3 Q
    ·exact .inr ⟨by rw[encE,if_pos hw],fun h=>hgd ⟨hw,h⟩⟩
    ·exact .inl (by rw[encE,if_neg hw])
   clear hn x6 y1 y2 y3 y4 y5 hb3 HY HD hgd
   rcases hcase with hE|⟨hE,hne⟩
   ·rw[hE];clear hE;generalize encS Q=sq;go_wp2;obtain⟨s0,s1,s2,s3,s4,s5⟩:=hp.cells;refine bodyPost_ret (v := .tuple #[.agg #[.int .i64 0,.int .i64 0,.int .u64 0,.int .u64 0,.slice none 0 0,.slice none 0 0],.int .i64 140]) (by simp[results,Tryz.results39,go_sem,s0,s1,s2,s3,s4,s5]) rfl ?_
    exact .inl ⟨HN.out,rfl,HB.out.trans (hc.below (by rintro b rfl;omega))⟩
   ·rw[hE];clear hE;generalize encS Q=sq at hne ⊢;have hbs:(sq.toList == s.toList)=false:=Qj4 hne;clear hne;go_wp2;obtain⟨s0,s1,s2,s3,s4,s5⟩:=hp.cells;refine bodyPost_ret (v := .tuple #[.agg #[.int .i64 0,.int .i64 0,.int .u64 0,.int .u64 0,.slice none 0 0,.slice none 0 0],.int .i64 140]) (by simp[results,Tryz.results39,go_sem,s0,s1,s2,s3,s4,s5]) rfl ?_
    exact .inl ⟨HN.out,rfl,HB.out.trans (hc.below (by rintro b rfl;omega))⟩
theorem QdA(s:BA)(hr : ∀w,Calls Tryz.prog 84 #[.string s] w (RdQ w s))(hd:dec s.data.toList=none)(w:World):Zr 39 #[.string s] w (.tuple #[.agg #[.int .i64 0,.int .i64 0,.int .u64 0,.int .u64 0,.slice none 0 0,.slice none 0 0],.int .i64 140]):=by
 refine(Qb1 s hr w).mono ?_
 rintro e w' (⟨_,h2,h3⟩|⟨P,_,_,_,_,_,_,h1,_⟩)
 ·exact⟨h2,h3⟩
 ·rw[hd] at h1;cases h1
theorem Up(s:BA)(hr : ∀w,Calls Tryz.prog 84 #[.string s] w (RdQ w s))(P:PV)(hd:dec s.data.toList=some P)(w:World):Calls Tryz.prog 39 #[.string s] w fun e w' => ∃sa sb sc da db dc,e = .returned (.tuple #[.agg #[.int .i64 P.kd,.int .i64 P.k,.int .u64 (P.old:Int),.int .u64 (P.size:Int),.slice sa P.S.length sc,.slice da P.D.length dc],.int .i64 0])∧RdPC w' sa sb 0 sc da db 0 dc P∧Zb w w':=by
 refine(Qb1 s hr w).mono ?_
 rintro e w' (⟨h1,_⟩|⟨Q,sa,sb,sc,da,db,dc,h1,h2,h3,h4⟩)
 ·rw[hd] at h1;cases h1
 ·rw[hd] at h1;cases h1;exact⟨sa,sb,sc,da,db,dc,h2,h3,h4⟩
structure LF(w0 W:World)(q q2:Nat)(pv:Value)(xb xo xn xc:Nat)(x:BA)(n:Nat)(d:BA)(er:Int)(L:Nat->Bool)(a:Act)(w:World):Prop where
 sz:a.tmps.size=21
 df:a.defers=[]
 i1:a.tmps.getD 1 undef = .slice (some ⟨xb,xo,none⟩) xn xc
 i2:a.tmps.getD 2 undef = .pointer (some ⟨q2,0,none⟩)
 i4:a.tmps.getD 4 undef = .pointer (some ⟨q,0,none⟩)
 b1:L 7=false->Zb W w
 b2:Zb w0 w
 a0:L 0=true->a.tmps.getD 9 undef=pv
 a1:L 1=true->a.tmps.getD 10 undef = .slice (some ⟨xb,xo,none⟩) xn xc
 a2:L 2=true->a.tmps.getD 11 undef = .pointer (some ⟨xb,xo,none⟩)
 a3:L 3=true->a.tmps.getD 12 undef = .string x
 a4:L 4=true->a.tmps.getD 13 undef = .tuple #[.agg #[.int .u64 (n:Int),.string d],.int .i64 er]
 a5:L 5=true->a.tmps.getD 14 undef = .agg #[.int .u64 (n:Int),.string d]
 a6:L 6=true->a.tmps.getD 15 undef = .int .i64 er
 a7:L 7=true->Rh w q n d
 a8:L 8=true->a.tmps.getD 5 undef = .int .i64 er
section
variable {w0 W:World} {q q2:Nat} {pv:Value} {xb xo xn xc:Nat} {x:BA} {n:Nat} {d:BA} {er:Int} {Q:Exit->Act->World->Prop} {ops:List Oper} {ty:TypeId} {ps:String} {af:Array Edge}
theorem lf_0(hds:dep ops 7 0=true)(h6 : ∀w,Zb W w -> ∃v0 v1 v2 v3 v4 v5,pv = .agg #[v0,v1,v2,v3,v4,v5]∧Six w q2 v0 v1 v2 v3 v4 v5):QZ Tryz.prog Q ops (LF w0 W q q2 pv xb xo xn xc x n d er) 0 { dst:=some 9,op:=Op.load 55 (Operand.tmp 2),type:=ty,pos:=ps,after:=af,guard:=none } := by
 intro L a w K hI hj hcl hdep hK;have hs:9<a.tmps.size:=by rw[hI.sz];decide
 have h8:=QY hcl hj hds;have hB:=hI.b1 h8;have t2:=hI.i2;obtain⟨v0,v1,v2,v3,v4,v5,rfl,hx⟩:=h6 w hB;obtain⟨m0,m1,m2,m3,m4,m5⟩:=hx.cells
 show Oper.wp _ _ a w K _
 go_simp
 exact hK _ _ { sz:=(by simp[Act.put,hI.sz]),df:=hI.df,i1:=(by rw[Qb a 9 1 _ hs,if_neg (by decide)];exact hI.i1),i2:=(by rw[Qb a 9 2 _ hs,if_neg (by decide)];exact hI.i2),i4:=(by rw[Qb a 9 4 _ hs,if_neg (by decide)];exact hI.i4),b1:=(fun h=>hI.b1 h),b2:=(hI.b2),a0:=(fun _=>by rw[Qb a 9 9 _ hs,if_pos rfl]),a1:=(fun h=>by rw[Qb a 9 10 _ hs,if_neg (by decide)];exact hI.a1 h),a2:=(fun h=>by rw[Qb a 9 11 _ hs,if_neg (by decide)];exact hI.a2 h),a3:=(fun h=>by rw[Qb a 9 12 _ hs,if_neg (by decide)];exact hI.a3 h),a4:=(fun h=>by rw[Qb a 9 13 _ hs,if_neg (by decide)];exact hI.a4 h),a5:=(fun h=>by rw[Qb a 9 14 _ hs,if_neg (by decide)];exact hI.a5 h),a6:=(fun h=>by rw[Qb a 9 15 _ hs,if_neg (by decide)];exact hI.a6 h),a7:=(fun h=>hI.a7 h),a8:=(fun h=>by rw[Qb a 9 5 _ hs,if_neg (by decide)];exact hI.a8 h) }
theorem lf_1  : QZ Tryz.prog Q ops (LF w0 W q q2 pv xb xo xn xc x n d er) 1 { dst:=some 10,op:=Op.move (Operand.tmp 1),type:=ty,pos:=ps,after:=af,guard:=none } := by
 intro L a w K hI hj hcl hdep hK;have hs:10<a.tmps.size:=by rw[hI.sz];decide
 have t1:=hI.i1
 show Oper.wp _ _ a w K _
 go_simp
 exact hK _ _ { sz:=(by simp[Act.put,hI.sz]),df:=hI.df,i1:=(by rw[Qb a 10 1 _ hs,if_neg (by decide)];exact hI.i1),i2:=(by rw[Qb a 10 2 _ hs,if_neg (by decide)];exact hI.i2),i4:=(by rw[Qb a 10 4 _ hs,if_neg (by decide)];exact hI.i4),b1:=(fun h=>hI.b1 h),b2:=(hI.b2),a0:=(fun h=>by rw[Qb a 10 9 _ hs,if_neg (by decide)];exact hI.a0 h),a1:=(fun _=>by rw[Qb a 10 10 _ hs,if_pos rfl]),a2:=(fun h=>by rw[Qb a 10 11 _ hs,if_neg (by decide)];exact hI.a2 h),a3:=(fun h=>by rw[Qb a 10 12 _ hs,if_neg (by decide)];exact hI.a3 h),a4:=(fun h=>by rw[Qb a 10 13 _ hs,if_neg (by decide)];exact hI.a4 h),a5:=(fun h=>by rw[Qb a 10 14 _ hs,if_neg (by decide)];exact hI.a5 h),a6:=(fun h=>by rw[Qb a 10 15 _ hs,if_neg (by decide)];exact hI.a6 h),a7:=(fun h=>hI.a7 h),a8:=(fun h=>by rw[Qb a 10 5 _ hs,if_neg (by decide)];exact hI.a8 h) }
theorem lf_2(d1:(af.toList.any fun e=>e.on == 1 && Region.binds .any e)=true)(hn:0<xn):QZ Tryz.prog Q ops (LF w0 W q q2 pv xb xo xn xc x n d er) 2 { dst:=some 11,op:=Op.indexAddr 22 (Operand.tmp 10) (Operand.const (.int .i64 0)),type:=ty,pos:=ps,after:=af,guard:=none } := by
 intro L a w K hI hj hcl hdep hK;have hs:11<a.tmps.size:=by rw[hI.sz];decide
 have t10:=hI.a1 (hdep 1 d1);have hz:(0:Int)<(xn:Int):=by omega
 show Oper.wp _ _ a w K _
 go_simp
 exact hK _ _ { sz:=(by simp[Act.put,hI.sz]),df:=hI.df,i1:=(by rw[Qb a 11 1 _ hs,if_neg (by decide)];exact hI.i1),i2:=(by rw[Qb a 11 2 _ hs,if_neg (by decide)];exact hI.i2),i4:=(by rw[Qb a 11 4 _ hs,if_neg (by decide)];exact hI.i4),b1:=(fun h=>hI.b1 h),b2:=(hI.b2),a0:=(fun h=>by rw[Qb a 11 9 _ hs,if_neg (by decide)];exact hI.a0 h),a1:=(fun h=>by rw[Qb a 11 10 _ hs,if_neg (by decide)];exact hI.a1 h),a2:=(fun _=>by rw[Qb a 11 11 _ hs,if_pos rfl]),a3:=(fun h=>by rw[Qb a 11 12 _ hs,if_neg (by decide)];exact hI.a3 h),a4:=(fun h=>by rw[Qb a 11 13 _ hs,if_neg (by decide)];exact hI.a4 h),a5:=(fun h=>by rw[Qb a 11 14 _ hs,if_neg (by decide)];exact hI.a5 h),a6:=(fun h=>by rw[Qb a 11 15 _ hs,if_neg (by decide)];exact hI.a6 h),a7:=(fun h=>hI.a7 h),a8:=(fun h=>by rw[Qb a 11 5 _ hs,if_neg (by decide)];exact hI.a8 h) }
theorem lf_3(d2:(af.toList.any fun e=>e.on == 2 && Region.binds .any e)=true)(hds:dep ops 7 3=true)(hc : ∀w,Zb W w->w.cell? ⟨xb,xo,none⟩=some (.string x)):QZ Tryz.prog Q ops (LF w0 W q q2 pv xb xo xn xc x n d er) 3 { dst:=some 12,op:=Op.load 9 (Operand.tmp 11),type:=ty,pos:=ps,after:=af,guard:=none } := by
 intro L a w K hI hj hcl hdep hK;have hs:12<a.tmps.size:=by rw[hI.sz];decide
 have h8:=QY hcl hj hds;have hB:=hI.b1 h8;have t11:=hI.a2 (hdep 2 d2);have hcx:=hc w hB
 show Oper.wp _ _ a w K _
 go_simp
 exact hK _ _ { sz:=(by simp[Act.put,hI.sz]),df:=hI.df,i1:=(by rw[Qb a 12 1 _ hs,if_neg (by decide)];exact hI.i1),i2:=(by rw[Qb a 12 2 _ hs,if_neg (by decide)];exact hI.i2),i4:=(by rw[Qb a 12 4 _ hs,if_neg (by decide)];exact hI.i4),b1:=(fun h=>hI.b1 h),b2:=(hI.b2),a0:=(fun h=>by rw[Qb a 12 9 _ hs,if_neg (by decide)];exact hI.a0 h),a1:=(fun h=>by rw[Qb a 12 10 _ hs,if_neg (by decide)];exact hI.a1 h),a2:=(fun h=>by rw[Qb a 12 11 _ hs,if_neg (by decide)];exact hI.a2 h),a3:=(fun _=>by rw[Qb a 12 12 _ hs,if_pos rfl]),a4:=(fun h=>by rw[Qb a 12 13 _ hs,if_neg (by decide)];exact hI.a4 h),a5:=(fun h=>by rw[Qb a 12 14 _ hs,if_neg (by decide)];exact hI.a5 h),a6:=(fun h=>by rw[Qb a 12 15 _ hs,if_neg (by decide)];exact hI.a6 h),a7:=(fun h=>hI.a7 h),a8:=(fun h=>by rw[Qb a 12 5 _ hs,if_neg (by decide)];exact hI.a8 h) }
theorem lf_4(d0:(af.toList.any fun e=>e.on == 0 && Region.binds .any e)=true)(d3:(af.toList.any fun e=>e.on == 3 && Region.binds .any e)=true)(hds:dep ops 7 4=true)(hR : ∀w,Zb W w->Zr 63 #[pv,.string x] w (.tuple #[.agg #[.int .u64 (n:Int),.string d],.int .i64 er])):QZ Tryz.prog Q ops (LF w0 W q q2 pv xb xo xn xc x n d er) 4 { dst:=some 13,op:=Op.call { callee:=Callee.value (Operand.func 63),args:=#[Operand.tmp 9,Operand.tmp 12],argTypes:=#[55,9] },type:=ty,pos:=ps,after:=af,guard:=none } := by
 intro L a w K hI hj hcl hdep hK;have hs:13<a.tmps.size:=by rw[hI.sz];decide
 have h8:=QY hcl hj hds;have hB:=hI.b1 h8;have t9:=hI.a0 (hdep 0 d0);have t12:=hI.a3 (hdep 3 d3)
 show Oper.wp _ _ a w K _
 go_simp
 refine(hR w hB).mono ?_
 rintro e w' ⟨rfl,hb⟩;exact hK _ _ { sz:=(by simp[Act.put,hI.sz]),df:=hI.df,i1:=(by rw[Qb a 13 1 _ hs,if_neg (by decide)];exact hI.i1),i2:=(by rw[Qb a 13 2 _ hs,if_neg (by decide)];exact hI.i2),i4:=(by rw[Qb a 13 4 _ hs,if_neg (by decide)];exact hI.i4),b1:=(fun _=>Qa hB hb),b2:=(Qa hI.b2 hb),a0:=(fun h=>by rw[Qb a 13 9 _ hs,if_neg (by decide)];exact hI.a0 h),a1:=(fun h=>by rw[Qb a 13 10 _ hs,if_neg (by decide)];exact hI.a1 h),a2:=(fun h=>by rw[Qb a 13 11 _ hs,if_neg (by decide)];exact hI.a2 h),a3:=(fun h=>by rw[Qb a 13 12 _ hs,if_neg (by decide)];exact hI.a3 h),a4:=(fun _=>by rw[Qb a 13 13 _ hs,if_pos rfl]),a5:=(fun h=>by rw[Qb a 13 14 _ hs,if_neg (by decide)];exact hI.a5 h),a6:=(fun h=>by rw[Qb a 13 15 _ hs,if_neg (by decide)];exact hI.a6 h),a7:=(fun h=>by rw[show(if (7:Nat)=4 then true else L 7)=L 7 from rfl,h8] at h;cases h),a8:=(fun h=>by rw[Qb a 13 5 _ hs,if_neg (by decide)];exact hI.a8 h) }
theorem lf_5(d4:(af.toList.any fun e=>e.on == 4 && Region.binds .any e)=true):QZ Tryz.prog Q ops (LF w0 W q q2 pv xb xo xn xc x n d er) 5 { dst:=some 14,op:=Op.extract (Operand.tmp 13) 0,type:=ty,pos:=ps,after:=af,guard:=none } := by
 intro L a w K hI hj hcl hdep hK;have hs:14<a.tmps.size:=by rw[hI.sz];decide
 have t13:=hI.a4 (hdep 4 d4)
 show Oper.wp _ _ a w K _
 go_simp
 exact hK _ _ { sz:=(by simp[Act.put,hI.sz]),df:=hI.df,i1:=(by rw[Qb a 14 1 _ hs,if_neg (by decide)];exact hI.i1),i2:=(by rw[Qb a 14 2 _ hs,if_neg (by decide)];exact hI.i2),i4:=(by rw[Qb a 14 4 _ hs,if_neg (by decide)];exact hI.i4),b1:=(fun h=>hI.b1 h),b2:=(hI.b2),a0:=(fun h=>by rw[Qb a 14 9 _ hs,if_neg (by decide)];exact hI.a0 h),a1:=(fun h=>by rw[Qb a 14 10 _ hs,if_neg (by decide)];exact hI.a1 h),a2:=(fun h=>by rw[Qb a 14 11 _ hs,if_neg (by decide)];exact hI.a2 h),a3:=(fun h=>by rw[Qb a 14 12 _ hs,if_neg (by decide)];exact hI.a3 h),a4:=(fun h=>by rw[Qb a 14 13 _ hs,if_neg (by decide)];exact hI.a4 h),a5:=(fun _=>by rw[Qb a 14 14 _ hs,if_pos rfl]),a6:=(fun h=>by rw[Qb a 14 15 _ hs,if_neg (by decide)];exact hI.a6 h),a7:=(fun h=>hI.a7 h),a8:=(fun h=>by rw[Qb a 14 5 _ hs,if_neg (by decide)];exact hI.a8 h) }
theorem lf_6(d4:(af.toList.any fun e=>e.on == 4 && Region.binds .any e)=true):QZ Tryz.prog Q ops (LF w0 W q q2 pv xb xo xn xc x n d er) 6 { dst:=some 15,op:=Op.extract (Operand.tmp 13) 1,type:=ty,pos:=ps,after:=af,guard:=none } := by
 intro L a w K hI hj hcl hdep hK;have hs:15<a.tmps.size:=by rw[hI.sz];decide
 have t13:=hI.a4 (hdep 4 d4)
 show Oper.wp _ _ a w K _
 go_simp
 exact hK _ _ { sz:=(by simp[Act.put,hI.sz]),df:=hI.df,i1:=(by rw[Qb a 15 1 _ hs,if_neg (by decide)];exact hI.i1),i2:=(by rw[Qb a 15 2 _ hs,if_neg (by decide)];exact hI.i2),i4:=(by rw[Qb a 15 4 _ hs,if_neg (by decide)];exact hI.i4),b1:=(fun h=>hI.b1 h),b2:=(hI.b2),a0:=(fun h=>by rw[Qb a 15 9 _ hs,if_neg (by decide)];exact hI.a0 h),a1:=(fun h=>by rw[Qb a 15 10 _ hs,if_neg (by decide)];exact hI.a1 h),a2:=(fun h=>by rw[Qb a 15 11 _ hs,if_neg (by decide)];exact hI.a2 h),a3:=(fun h=>by rw[Qb a 15 12 _ hs,if_neg (by decide)];exact hI.a3 h),a4:=(fun h=>by rw[Qb a 15 13 _ hs,if_neg (by decide)];exact hI.a4 h),a5:=(fun h=>by rw[Qb a 15 14 _ hs,if_neg (by decide)];exact hI.a5 h),a6:=(fun _=>by rw[Qb a 15 15 _ hs,if_pos rfl]),a7:=(fun h=>hI.a7 h),a8:=(fun h=>by rw[Qb a 15 5 _ hs,if_neg (by decide)];exact hI.a8 h) }
theorem lf_7(d5:(af.toList.any fun e=>e.on == 5 && Region.binds .any e)=true)(hq : ∀w,Zb W w -> ∃n9 d9,Rh w q n9 d9)(hq0:w0.heap.size<=q):QZ Tryz.prog Q ops (LF w0 W q q2 pv xb xo xn xc x n d er) 7 { dst:=none,op:=Op.store 30 (Operand.tmp 4) (Operand.tmp 14),type:=ty,pos:=ps,after:=af,guard:=none } := by
 intro L a w K hI hj hcl hdep hK;have t4:=hI.i4;have t14:=hI.a5 (hdep 5 d5);have hB:=hI.b1 hj;obtain⟨n9,d9,g4⟩ : ∃n9 d9,Rh w q n9 d9:=hq w hB;obtain⟨k0,k1⟩:=g4.cells;have fz:=g4.fz;have hch:=QU w q n d;have hpt:=g4.put n d;unfold UH at hch hpt
 show Oper.wp _ _ a w K _
 go_simp
 exact hK undef _ { sz:=hI.sz,df:=hI.df,i1:=(by exact hI.i1),i2:=(by exact hI.i2),i4:=(by exact hI.i4),b1:=(fun h=>by cases h),b2:=(hI.b2.trans (hch.below (by rintro b rfl;exact hq0))),a0:=(fun h=>by exact hI.a0 h),a1:=(fun h=>by exact hI.a1 h),a2:=(fun h=>by exact hI.a2 h),a3:=(fun h=>by exact hI.a3 h),a4:=(fun h=>by exact hI.a4 h),a5:=(fun h=>by exact hI.a5 h),a6:=(fun h=>by exact hI.a6 h),a7:=(fun _=>hpt),a8:=(fun h=>by exact hI.a8 h) }
theorem lf_8(d6:(af.toList.any fun e=>e.on == 6 && Region.binds .any e)=true):QZ Tryz.prog Q ops (LF w0 W q q2 pv xb xo xn xc x n d er) 8 { dst:=some 5,op:=Op.assign (Operand.tmp 15),type:=ty,pos:=ps,after:=af,guard:=none } := by
 intro L a w K hI hj hcl hdep hK;have hs:5<a.tmps.size:=by rw[hI.sz];decide
 have t15:=hI.a6 (hdep 6 d6)
 show Oper.wp _ _ a w K _
 go_simp
 exact hK _ _ { sz:=(by simp[Act.put,hI.sz]),df:=hI.df,i1:=(by rw[Qb a 5 1 _ hs,if_neg (by decide)];exact hI.i1),i2:=(by rw[Qb a 5 2 _ hs,if_neg (by decide)];exact hI.i2),i4:=(by rw[Qb a 5 4 _ hs,if_neg (by decide)];exact hI.i4),b1:=(fun h=>hI.b1 h),b2:=(hI.b2),a0:=(fun h=>by rw[Qb a 5 9 _ hs,if_neg (by decide)];exact hI.a0 h),a1:=(fun h=>by rw[Qb a 5 10 _ hs,if_neg (by decide)];exact hI.a1 h),a2:=(fun h=>by rw[Qb a 5 11 _ hs,if_neg (by decide)];exact hI.a2 h),a3:=(fun h=>by rw[Qb a 5 12 _ hs,if_neg (by decide)];exact hI.a3 h),a4:=(fun h=>by rw[Qb a 5 13 _ hs,if_neg (by decide)];exact hI.a4 h),a5:=(fun h=>by rw[Qb a 5 14 _ hs,if_neg (by decide)];exact hI.a5 h),a6:=(fun h=>by rw[Qb a 5 15 _ hs,if_neg (by decide)];exact hI.a6 h),a7:=(fun h=>hI.a7 h),a8:=(fun _=>by rw[Qb a 5 5 _ hs,if_pos rfl]) }
end
theorem Qfr(w:World)(k:Int)(old size:Nat)(sa:OA)(ns sc:Nat)(da:OA)(dn dc:Nat)(xa:OA)(xb xo xn xc:Nat)(X:LB)(hx:RdS w xa xb xo xn X)(h0:0<xn)(n:Nat)(d:BA)(er:Int)
  (hR : ∀W,Zb w W->Zr 63 #[vP 1 k old size (.slice sa ns sc) (.slice da dn dc),.string (X.getD 0 ByteArray.empty)] W (.tuple #[.agg #[.int .u64 (n:Int),.string d],.int .i64 er])) :
  Zr 29 #[vP 1 k old size (.slice sa ns sc) (.slice da dn dc),.slice xa xn xc] w (.tuple #[.agg #[.int .u64 (n:Int),.string d],.int .i64 er]):=by
 obtain rfl:=hx.ptr h0;obtain⟨W0,hW0⟩:=Ze ((w.alloc (.cells #[.int .i64 1,.int .i64 k,.int .u64 (old:Int),.int .u64 (size:Int),.slice sa ns sc,.slice da dn dc] 55)).alloc (.cells #[.int .u64 0,.string ⟨#[]⟩] 30));have hb0:Zb w W0:=by rw[<-hW0];exact bal (bal (Below.refl _ _) _) _
 obtain⟨h6,hr0⟩:Six W0 w.heap.size (.int .i64 1) (.int .i64 k) (.int .u64 (old:Int)) (.int .u64 (size:Int)) (.slice sa ns sc) (.slice da dn dc)∧Rh W0 (w.heap.size+1) 0 ⟨#[]⟩:=by
  obtain⟨e1,e2⟩:=Jh w (.cells #[.int .i64 1,.int .i64 k,.int .u64 (old:Int),.int .u64 (size:Int),.slice sa ns sc,.slice da dn dc] 55) (.cells #[.int .u64 0,.string ⟨#[]⟩] 30);rw[<-hW0];exact⟨e1,e2⟩
 have hb0':Zb w W0:=hb0;have m0:=h6.cells.1;have HX:=Qc (And.intro hx (And.intro hb0 (And.intro h6 hr0)));have HR:=Qc hR;unfold vP at HR;clear hx hb0 h6 hr0 hR;unfold vP
 go_enter Tryz.func29,Tryz.ntmps29
 go_upto_region 1 with (fail)
 try rw[hW0]
 clear hW0
 go_upto_region 2 with (fail)
 refine YH (by kernel_rfl) (by kernel_rfl) (LF w W0 (w.heap.size+1) w.heap.size (.agg #[.int .i64 1,.int .i64 k,.int .u64 (old:Int),.int .u64 (size:Int),.slice sa ns sc,.slice da dn dc]) xb xo xn xc (X.getD 0 ByteArray.empty) n d er)
  (fun Z _ hZ => { sz:=rfl,df:=rfl,i1:=rfl,i2:=rfl,i4:=rfl,b1:=(fun _=>hZ),b2:=(Qa hb0' hZ),a0:=(fun h=>by cases h),a1:=(fun h=>by cases h),a2:=(fun h=>by cases h),a3:=(fun h=>by cases h),a4:=(fun h=>by cases h),a5:=(fun h=>by cases h),a6:=(fun h=>by cases h),a7:=(fun h=>by cases h),a8:=(fun h=>by cases h) })
  ⟨lf_0 rfl (fun Z hZ=>⟨_,_,_,_,_,_,rfl,HX.out.2.2.1.next hZ⟩),lf_1,lf_2 rfl h0,lf_3 rfl rfl (fun Z hZ=>by have:=(HX.out.1.next (Qa hb0' hZ) (Lb _)).at h0;exact this),lf_4 rfl rfl rfl (fun Z hZ=>HR.out Z (Qa hb0' hZ)),lf_5 rfl,lf_6 rfl,lf_7 rfl (fun Z hZ=>⟨_,_,HX.out.2.2.2.next hZ⟩) (by omega),lf_8 rfl,trivial⟩ ?_
 intro L a7 w7 hall hI;obtain⟨⟨tl⟩,df⟩:=a7;have hl0:tl.length=21:=hI.sz;obtain⟨u0,t0,rfl,hl1⟩:=Qf hl0;obtain⟨u1,t1,rfl,hl2⟩:=Qf hl1;obtain⟨u2,t2,rfl,hl3⟩:=Qf hl2;obtain⟨u3,t3,rfl,hl4⟩:=Qf hl3;obtain⟨u4,t4,rfl,hl5⟩:=Qf hl4;obtain⟨u5,t5,rfl,hl6⟩:=Qf hl5;obtain⟨u6,t6,rfl,hl7⟩:=Qf hl6;obtain⟨u7,t7,rfl,hl8⟩:=Qf hl7;obtain⟨u8,t8,rfl,hl9⟩:=Qf hl8;obtain⟨u9,t9,rfl,hl10⟩:=Qf hl9;obtain⟨u10,t10,rfl,hl11⟩:=Qf hl10;obtain⟨u11,t11,rfl,hl12⟩:=Qf hl11;obtain⟨u12,t12,rfl,hl13⟩:=Qf hl12;obtain⟨u13,t13,rfl,hl14⟩:=Qf hl13;obtain⟨u14,t14,rfl,hl15⟩:=Qf hl14;obtain⟨u15,t15,rfl,hl16⟩:=Qf hl15;obtain⟨u16,t16,rfl,hl17⟩:=Qf hl16;obtain⟨u17,t17,rfl,hl18⟩:=Qf hl17;obtain⟨u18,t18,rfl,hl19⟩:=Qf hl18;obtain⟨u19,t19,rfl,hl20⟩:=Qf hl19;obtain⟨u20,t20,rfl,hl21⟩:=Qf hl20;obtain rfl:=LG.1 hl21;obtain rfl:df=[]:=hI.df;obtain rfl:u4 = .pointer (some ⟨w.heap.size+1,0,none⟩):=hI.i4;obtain rfl:u5 = .int .i64 er:=hI.a8 (hall 8 (by decide))
 obtain⟨s0,s1⟩:=(hI.a7 (hall 7 (by decide))).cells
 have HB:=Qc hI.b2;clear hall hI
 repeat go_step
 refine bodyPost_ret (v := .tuple #[.agg #[.int .u64 (n:Int),.string d],.int .i64 er]) (by simp[results,Tryz.results29,go_sem,s0,s1]) rfl ⟨rfl,HB.out⟩
namespace Cv
open Pl
theorem JA(w:World){ops:Array Oper}{rest:List Oper}{o:Oper}{a:Act}{Q:Exit->Act->World->Prop}
  (hg:o.guard=none) (s x:Operand) (hop:o.op=Op.call { callee:=Callee.builtin Builtin.append,args:=#[s,x],argTypes:=#[77,77] })
  (B:Nat) (v:Value) (L:List (Int×Nat)) (hs:a.eval s=v) (hown:Qz w B v L) (u:Value) (M:List (Int×Nat)) (hx:a.eval x=u) (hr:RdC w u M.length (cB M))
  (hlen:L.length+M.length<=2199023255552) (hB:B<=w.heap.size)
  (hK : ∀v' w',Qz w' B v' (L++M)->w.grownBy w' v.ownBlock->wpList Tryz.prog ops Q rest (a.put o.dst v') w'):wpList Tryz.prog ops Q (o::rest) a w:=by
 obtain⟨i0,hi,hz0,hz1,hz2⟩:=info_parts Tryz.infoB;refine QQ w hg s x _ hop B 83 i0 (.agg #[.int .i64 0,.int .u64 0]) 2 16 Tryz.underlying77 hi hz0 hz1 hz2 rfl (by decide) v L.length (cB L) hs hown u M.length (cB M) hx hr (Qw M) (Ov M) (by unfold maxLen;omega) (by omega) hB ?_
 intro v' w' h;refine hK v' w' ?_ h.grown
 rw[Qz,Ou,Ld];exact h.own
structure Two(w:World)(g:Nat)(h:Int)(k:Nat):Prop where
 c0:w.cell? ⟨g,0,none⟩=some (.int .i64 h)
 c1:w.cell? ⟨g,1,none⟩=some (.int .u64 (k:Int))
theorem Two.below{w w':World}{g k:Nat}{h:Int}(t:Two w g h k)(hb:Zb w w'):Two w' g h k :=
 ⟨(hb.cell (p:=⟨g,0,none⟩) (Lh w _ t.c0)).trans t.c0,(hb.cell (p:=⟨g,1,none⟩) (Lh w _ t.c1)).trans t.c1⟩
theorem QdT(w:World)(h:Int)(k t:Nat):Two (w.alloc (.cells #[.int .i64 h,.int .u64 (k:Int)] t)) w.heap.size h k:=by
 refine⟨?_,?_⟩ <;> simp
theorem QcS(h k:Nat)(w:World)(hh:h<=40)(hk:k<pw (40 - h)) :
  Zr 141 #[bv h k] w (.tuple #[.int .u64 (k*pw h:Nat),.int .u64 ((k+1)*pw h:Nat)]):=by
 have hm:=QkH hh hk;have hk2:=Qgd hk;have T:Hid (Two (w.alloc (.cells #[.int .i64 (h:Int),.int .u64 (k:Int)] 83)) w.heap.size h k):=QdT w h k 83;have HM:Hid ((k+1)*pw h<=2^40∧h<=40):=⟨hm,hh⟩;have ek:IntKind.u64.wrap ((k:Int)+1)=(k:Int)+1:=by rw[IntKind.wrap_u64];omega
 clear hm hk2 hh hk
 go_enter Tryz.func141,Tryz.ntmps141;go_wp2
 go_loopg [4,5,6] h (fun g lo hi i wr => ∃j x y:Nat,j<=h∧g=h - j∧i = .int .i64 (j:Int)∧lo = .int .u64 (x:Int)∧hi = .int .u64 (y:Int)∧x=k*pw j∧y=(k+1)*pw j∧wr=w.alloc (.cells #[.int .i64 (h:Int),.int .u64 (k:Int)] 83))
 case atStart =>
  go_light;exact⟨0,k,k+1,Lf _,rfl,rfl,rfl,rfl,by simp[pw],by simp[pw],rfl⟩
 case round =>
  obtain⟨j,x,y,hj,rfl,rfl,rfl,rfl,hx,hy,rfl⟩:=hrel;obtain⟨hm,hh⟩:=HM.out;obtain⟨t0,t1⟩:=T.out;have hj0:(0:Int)<=(j:Int):=Le _;have hj1:(j:Int)<=40:=by omega
  by_cases hlt:j<h
  ·have hlt':(j:Int)<(h:Int):=by omega
   have hb:(k+1)*pw (j+1)<=(k+1)*pw h:=NT _ (JV hlt);have e1:k*pw (j+1)=2*x:=by rw[hx,QJ,L4]
   have e2:(k+1)*pw (j+1)=2*y:=by rw[hy,QJ,L4]
   have hxy:x<=y:=by rw[hx,hy];exact Lo _ (by omega)
   have w1:IntKind.u64.wrap (2*(x:Int))=2*(x:Int):=by rw[IntKind.wrap_u64];omega
   have w2:IntKind.u64.wrap (2*(y:Int))=2*(y:Int):=by rw[IntKind.wrap_u64];omega
   have HX:Hid (2*x=k*pw (j+1)∧2*y=(k+1)*pw (j+1)):=⟨e1.symm,e2.symm⟩;clear hb e1 e2 hxy hx hy hm hh hj;go_wp2
   go_roundg (h - (j+1))
   case rel =>
    go_light;exact⟨j+1,2*x,2*y,by omega,rfl,by go_num,by go_num,by go_num,HX.out.1,HX.out.2,rfl⟩
   case measure=>go_light;omega
  ·obtain rfl:j=h:=by omega
   have hlt' : ¬(j:Int)<(j:Int):=by omega
   have HX:Hid (x=k*pw j∧y=(k+1)*pw j):=⟨hx,hy⟩;clear hx hy hm hh hj hlt;go_wp2
   go_ret2
   obtain⟨rfl,rfl⟩:=HX.out;exact⟨rfl,bal (Below.refl _ _) _⟩
theorem QkW(m:Nat):pw (m+1) / 2=pw m:=by rw[QK];omega
theorem QaR(n:Nat)(w:World)(hn:n<=2^40) :
  Calls Tryz.prog 86 #[.int .u64 (n:Int)] w fun e w' => ∃v,e = .returned v∧Qz w' w.heap.size v (zl (dnL 41 0 n))∧Zb w w':=by
 have HN:Hid (n<=2^40):=hn;clear hn
 go_enter Tryz.func86,Tryz.ntmps86;go_wp2
 go_loopg [3,4,5,6] 41 (fun g v f p h wr => ∃(m x:Nat) (acc:List (Nat×Nat)),m<=41∧m=g∧h = .int .i64 ((m:Int) - 1)∧p = .int .u64 ((pw m / 2:Nat):Int)∧f = .int .u64 (x:Int)∧x<=n∧Qz wr w.heap.size v (zl acc)∧acc++dnL m x n=dnL 41 0 n∧acc.length+m<=41∧Zb w wr)
 case atStart =>
  go_light;exact⟨41,0,[],by decide,rfl,rfl,rfl,rfl,Lf _,Lz _ _ _ _,rfl,by decide,Below.refl _ _⟩
 case round =>
  obtain⟨m,x,acc,hm,rfl,rfl,rfl,rfl,hx,hown,hacc,hlen,hb⟩:=hrel;have hn:=HN.out
  by_cases hm0:m=0
  ·subst hm0;have ht : ¬(0:Int)<=((0:Nat):Int) - 1:=by omega
   have HF:Hid (Qz wr w.heap.size u3 (zl (dnL 41 0 n))∧Zb w wr):=⟨by
    rw[<-hacc];simpa [dnL] using hown,hb⟩
   clear hx hown hacc hlen hb hn hm;go_wp2
   go_ret
   exact⟨_,rfl,HF.out⟩
  ·obtain⟨i,rfl⟩ : ∃i,m=i+1:=⟨m - 1,by omega⟩
   have ei:(((i+1:Nat):Int) - 1)=(i:Int):=by omega
   rw[ei,QkW];have hi0:(0:Int)<=(i:Int):=Le _;have hi1:(i:Int)<=40:=by omega
   obtain⟨p,hp⟩:=Ze (pw i);have hp40:pw i<=pw 40:=JV (by omega)
   have e40:pw 40=2^40:=rfl;have hpp:=QB i;rw[hp] at hp40 hpp ⊢;obtain⟨d,hd⟩:=Ze (n - x);have ed:IntKind.u64.wrap ((n:Int) - (x:Int))=(d:Int):=by rw[IntKind.wrap_u64];omega
   obtain⟨p2,hp2⟩:=Ze (p / 2);have ep:IntKind.u64.wrap ((p:Int) / 2)=(p2:Int):=by rw[IntKind.wrap_u64];omega
   have hne : ¬(p:Int)=0:=by omega
   have hsz:=hb.size
   by_cases hfit:p<=d
   ·have hfi:(p:Int)<=(d:Int):=by omega
    obtain⟨q,hq⟩:=Ze (x / pw i);have hq2:x / p=q:=by rw[<-hp];exact hq
    have hqx:q<=x:=by rw[<-hq];exact Nv _ _
    have eq:(x:Int) / (p:Int)=(q:Int):=by rw[<-hq2];rfl
    have eq2:IntKind.u64.wrap (q:Int)=(q:Int):=by rw[IntKind.wrap_u64];omega
    have ef:IntKind.u64.wrap ((x:Int)+(p:Int))=((x+p:Nat):Int):=by rw[IntKind.wrap_u64];omega
    have hu:=Qdh (h:=i) (lo:=x) (hi:=n) (by omega)
    rw[hq,hp] at hu;have HX:Hid (acc++[(i,q)]++dnL i (x+p) n=dnL 41 0 n∧x+p<=n∧(acc++[(i,q)]).length+i<=41∧Zb w wr∧w.heap.size<=wr.heap.size∧acc.length<=41∧pw i / 2=p2):=by
     refine⟨?_,by omega,by simp;omega,hb,hsz,by omega,by rw[hp,hp2]⟩
     rw[Lt,<-hacc,hu];rfl
    clear hx hacc hlen hb hn hm hm0 hp hd hp2 hq hq2 hqx hu e40 hp40 hpp hsz hfit
    go_wp2_with (at_builtin;refine QO _ rfl _ _ rfl w.heap.size _ (zl acc) rfl (hown.alloc _) _ [((i:Int),q)] rfl (Ux wr (i:Int) q 83) ?c1 ?c2 ?_)
    case c1=>have:=HX.out.2.2.2.2.2.1;rw[Qq];simp;omega
    case c2=>have:=HX.out.2.2.2.2.1;simp;omega
    intro v' w1 r1 r2 _;have R:=Qaw HX.out.2.2.2.1 HX.out.2.2.2.2.1 hown r2;clear r2 hown;go_wp2
    go_roundg i
    case rel =>
     go_light;obtain⟨x1,x2,x3,x4,x5,x6,x7⟩:=HX.out;refine⟨i,x+p,acc++[(i,q)],by omega,rfl,by go_num,by rw[x7],by go_num,x2,?_,x1,x3,R.1⟩
     rw[YL];exact r1
    case measure=>go_light;omega
   ·have hfi : ¬(p:Int)<=(d:Int):=by omega
    have hu:=QfZ (h:=i) (lo:=x) (hi:=n) (by omega)
    rw[hu] at hacc;have HX:Hid (acc++dnL i x n=dnL 41 0 n∧x<=n∧acc.length+i<=41∧Zb w wr∧pw i / 2=p2):=⟨hacc,hx,by omega,hb,by rw[hp,hp2]⟩
    clear hx hacc hlen hb hn hm hm0 hp hd hp2 hu e40 hp40 hpp hsz;go_wp2
    go_roundg i
    case rel =>
     go_light;obtain⟨x1,x2,x3,x4,x5⟩:=HX.out;exact⟨i,x,acc,by omega,rfl,by go_num,by rw[x5],rfl,x2,hown,x1,x3,x4⟩
    case measure=>go_light;omega
end Cv
end Go.Proofs.YtdocjikpcbmcgaaGreatDoor
