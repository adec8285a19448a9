/- Own work. -/
import Derived.Deep.Upon
import Derived.Test.YtdocjikpcbmcgaaGreatDoorQn09
set_option maxRecDepth 100000
set_option maxHeartbeats 4000000
namespace Go.Proofs.YtdocjikpcbmcgaaGreatDoor
open Go.RowKit
attribute [local go_sem ↓] Go.wp_at_zero Go.wp_at_succ
open Go.Proofs.Tryz
theorem Qdj{w:World}{p:Nat}{s:BA}(hr:Rdr w p s 0)(hs:s.size<=9223372036854775807)(h:s.data.toList=[]) :
  Calls prog 102 #[.pointer (some ⟨p,0,none⟩)] w fun e w'=>e=pnc∧Ch p w w':=by
 refine(Qcu w p s hr hs).mono ?_
 rintro e w' (⟨n,s',g1,_⟩|⟨_,g2,g3⟩)
 ·rw[h] at g1;cases g1
 ·exact⟨g2,g3⟩
theorem Qdk{w:World}{p:Nat}{s:BA}{b:UInt8}{r:List UInt8}(hr:Rdr w p s 0)(hs:s.size<=9223372036854775807)(h:s.data.toList=b::r) :
  Calls prog 102 #[.pointer (some ⟨p,0,none⟩)] w fun e w' => ∃s',s'.data.toList=r∧e = .returned (.int .i64 (b.toNat:Int))∧Rdr w' p s' 0∧Ch p w w'∧s'.size<=s.size:=by
 refine(Qcu w p s hr hs).mono ?_
 rintro e w' (⟨n',s',g1,g2⟩|⟨g1,_⟩)
 ·rw[h] at g1;cases g1;exact⟨s',rfl,g2⟩
 ·rw[h] at g1;cases g1
section
variable {w W:World} {s:Nat} {a b c d e f:Value}
theorem Six.set0(h:Six w s a b c d e f)(x:Value):Six (w.setCell ⟨s,0,none⟩ x) s x b c d e f:=LI w s 0 _ _ x h
theorem Six.set1(h:Six w s a b c d e f)(x:Value):Six (w.setCell ⟨s,1,none⟩ x) s a x c d e f:=LI w s 1 _ _ x h
theorem Six.set2(h:Six w s a b c d e f)(x:Value):Six (w.setCell ⟨s,2,none⟩ x) s a b x d e f:=LI w s 2 _ _ x h
theorem Six.set3(h:Six w s a b c d e f)(x:Value):Six (w.setCell ⟨s,3,none⟩ x) s a b c x e f:=LI w s 3 _ _ x h
theorem Six.set4(h:Six w s a b c d e f)(x:Value):Six (w.setCell ⟨s,4,none⟩ x) s a b c d x f:=LI w s 4 _ _ x h
theorem Six.set5(h:Six w s a b c d e f)(x:Value):Six (w.setCell ⟨s,5,none⟩ x) s a b c d e x:=LI w s 5 _ _ x h
end
structure PS(w:World)(p:Nat)(wr:World)(s:BA)(a b c d e f:Value):Prop where
 rd:Rdr wr p s 0
 ch:Ch p w wr
 res:Six wr w.heap.size (.int .i64 0) (.int .i64 0) (.int .u64 0) (.int .u64 0) (.slice none 0 0) (.slice none 0 0)
 six:Six wr (w.heap.size+1) a b c d e f
section
variable {w wr w1:World} {p:Nat} {s s':BA} {a b c d e f:Value}
theorem PS.read(h:PS w p wr s a b c d e f)(hp:p<w.heap.size)(hr:Rdr w1 p s' 0)(hc:Ch p wr w1):PS w p w1 s' a b c d e f :=
 ⟨hr,h.ch.trans hc,h.res.same (hc.block _ h.res.lt (by omega)),h.six.same (hc.block _ h.six.lt (by omega))⟩
theorem PS.more(h:PS w p wr s a b c d e f)(hp:p<w.heap.size)(hb:Zb wr w1):PS w p w1 s a b c d e f :=
 ⟨h.rd.next hb h.rd.lt,h.ch.low (hb.mono h.ch.below.size) hp,h.res.next hb,h.six.next hb⟩
theorem PS.set(h:PS w p wr s a b c d e f)(hp:p<w.heap.size)(i:Nat)(v:Value){a' b' c' d' e' f':Value}(h6:Six (wr.setCell ⟨w.heap.size+1,i,none⟩ v) (w.heap.size+1) a' b' c' d' e' f'):PS w p (wr.setCell ⟨w.heap.size+1,i,none⟩ v) s a' b' c' d' e' f':=by
 have hb:Below (w.heap.size+1) wr (wr.setCell ⟨w.heap.size+1,i,none⟩ v):=(Lb _ _).setCell (p:=⟨w.heap.size+1,i,none⟩) (Ld _) v;exact⟨h.rd.next hb (by omega),h.ch.low (hb.mono (by omega)) hp,h.res.same (hb.block _ (by omega)),h6⟩
end
theorem Qkd(w:World)(p:Nat)(s:BA)(hr:Rdr w p s 0)(o:Obj)(ho:o = .cells #[.int .i64 0,.int .i64 0,.int .u64 0,.int .u64 0,.slice none 0 0,.slice none 0 0] 55) :
  PS w p ((w.alloc o).alloc o) s (.int .i64 0) (.int .i64 0) (.int .u64 0) (.int .u64 0) (.slice none 0 0) (.slice none 0 0):=by
 subst ho;have hb:=bal (bal (Lb w.heap.size w) (.cells #[.int .i64 0,.int .i64 0,.int .u64 0,.int .u64 0,.slice none 0 0,.slice none 0 0] 55)) (.cells #[.int .i64 0,.int .i64 0,.int .u64 0,.int .u64 0,.slice none 0 0,.slice none 0 0] 55);refine⟨hr.next hb hr.lt,(Ch.refl p w).low hb hr.lt,(Q8 w _ _ _ _ _ _).next (bal (Lb _ _) _),?_⟩
 have:=Q8 (w.alloc (.cells #[.int .i64 0,.int .i64 0,.int .u64 0,.int .u64 0,.slice none 0 0,.slice none 0 0] 55)) (.int .i64 0) (.int .i64 0) (.int .u64 0) (.int .u64 0) (.slice none 0 0) (.slice none 0 0)
 rwa [LA] at this
theorem QjV(w:World)(i:Nat):Cv.Own (w.alloc (.cells #[.int .u64 (i:Int)] 28)) w.heap.size (.slice (some ⟨w.heap.size,0,none⟩) 1 1) [i] :=
 ⟨rfl,.inr ⟨w.heap.size,1,_,rfl,Ld _,Lu w _,Ld _,by decide,rfl,rfl⟩⟩
theorem UH{w:World}{B:Nat}{v:Value}{l:List Nat}(h:Cv.Own w B v l) : ∃ao b c,v = .slice ao l.length c∧RdU w ao b 0 l.length l∧(ao=none->c=0):=by
 rcases h.2 with ⟨rfl,h0⟩|⟨g,cap,cur,rfl,hg,_⟩
 ·have:l=[]:=List.length_eq_zero_iff.1 h0;subst this;exact⟨none,0,0,rfl,⟨rfl,fun h=>absurd h (NG 0),fun j v h=>by cases h⟩,fun _=>rfl⟩
 ·have:=QlP (l':=[]) (by rw[Na];exact h)
  exact⟨_,g,cap,rfl,this,fun h=>by cases h⟩
def decM(k0 k1 size:Nat)(l:List UInt8):Option PV:=match UX k0 size l with|none=>none|some (old,S,l2)=>OJ k0 k1 size old S l2
theorem Qld{k0 k1:Nat}{l:List UInt8}(h:nmb l=none):decA k0 k1 l=none:=by rw[decA,h]
theorem Qi5{k0 k1 size:Nat}{l r:List UInt8}(h:nmb l=some (size,r)):decA k0 k1 l=decM k0 k1 size r:=by rw[decA,h];rfl
theorem Qdx{k0 k1 size:Nat}{l:List UInt8}(h:UX k0 size l=none):decM k0 k1 size l=none:=by rw[decM,h]
theorem JF{k0 k1 size old:Nat}{S:List Nat}{l r:List UInt8}(h:UX k0 size l=some (old,S,r)):decM k0 k1 size l=OJ k0 k1 size old S r:=by rw[decM,h]
theorem Qi6{k0 k1 size:Nat}{l:List UInt8}(h : ∀o S r,UX k0 size l=some (o,S,r)->2^40<size):decM k0 k1 size l=none:=by
 cases hm:UX k0 size l with
 | none=>exact Qdx hm
 | some a =>
  obtain⟨o,S,r⟩:=a;rw[JF hm,OJ,Qdw (by have:=h o S r hm;omega)]
theorem Qa4{k0 k1 size old:Nat}{S:List Nat}{l:List UInt8}(h:cnt k0 k1 old size S=none):OJ k0 k1 size old S l=none:=by rw[OJ,h]
theorem QbF{k0 k1 size old c:Nat}{S:List Nat}{l:List UInt8}(h:cnt k0 k1 old size S=some c)(hl : ¬c*k1=l.length):OJ k0 k1 size old S l=none:=by rw[OJ,h];simp only;rw[Le hl]
theorem QbG{k0 k1 size old c:Nat}{S:List Nat}{l:List UInt8}(h:cnt k0 k1 old size S=some c)(hl:c*k1=l.length):OJ k0 k1 size old S l=some ⟨k0,k1,old,size,S,YA c k1 l⟩:=by rw[OJ,h];simp only;rw[Lm hl]
theorem QeW{k0 size:Nat}{l:List UInt8}(h:k0=1):UX k0 size l=match nmb l with|none=>none|some (i,r)=>some (0,[i],r):=by rw[UX,Lm h];cases nmb l <;> rfl
theorem Qc0{k0 size:Nat}{l:List UInt8}(h:k0=2):UX k0 size l=UX 2 size l:=by rw[h]
theorem Qb7{k0 size:Nat}{l:List UInt8}(h:k0=3):UX k0 size l=match nmb l with|none=>none|some (o,r)=>some (o,[],r):=by rw[UX,Le (by omega),Le (by omega),Lm h];cases nmb l <;> rfl
theorem QfY{k0 size:Nat}{l:List UInt8}(h1:k0≠1)(h2:k0≠2)(h3:k0≠3):UX k0 size l=some (0,[],l):=by rw[UX,Le h1,Le h2,Le h3]
theorem Y3{w:World}{B e size n q:Nat}{v:Value}{xs:List Value}{a b c d x y:Value}(h:w.ownsRow B e size v n xs)(h6:Six w q a b c d x y)(he:e≠55) : ∀g,v.ownBlock=some g->g≠q:=by
 rintro g hg rfl
 rcases h.2 with ⟨rfl,_⟩|⟨g',cap,cur,rfl,_,hh,_⟩
 ·cases hg
 ·cases hg;rw[Six,hh] at h6;injection h6 with h6
  injection h6 with _ e2 _
  exact he e2
structure TlC(w:World)(p:Nat)(s0:BA)(k0 k1 size:Nat)(W:World)(s:BA)(old:Nat)(SL:List Nat)(ao:OA)(bb cp:Nat):Prop where
 ps:PS w p W s (.int .i64 (k0:Int)) (.int .i64 (k1:Int)) (.int .u64 (old:Int)) (.int .u64 (size:Int)) (.slice ao SL.length cp) (.slice none 0 0)
 own:Cv.Own W w.heap.size (.slice ao SL.length cp) SL
 rd:RdU W ao bb 0 SL.length SL
 dc:dec s0.data.toList=OJ k0 k1 size old SL s.data.toList
 len:size<=2^40->SL.length<=17592186044416
 old64:old<18446744073709551616
 sz:s.size<=281474976710656
theorem TlC.more{w:World}{p:Nat}{s0:BA}{k0 k1 size:Nat}{W W':World}{s:BA}{old:Nat}{SL:List Nat}{ao:OA}{bb cp:Nat}(h:TlC w p s0 k0 k1 size W s old SL ao bb cp)(hp:p<w.heap.size)(hb:Zb W W'):TlC w p s0 k0 k1 size W' s old SL ao bb cp :=
 ⟨h.ps.more hp hb,Qi h.own (fun g hg _=>hb.block g (h.own.lt g hg).2),h.rd.next hb,h.dc,h.len,h.old64,h.sz⟩
theorem QkE{w:World}{p:Nat}{s0:BA}{k0 k1 size:Nat}{W:World}{s:BA}{old:Nat}{SL:List Nat}{sv:Value}(ps:PS w p W s (.int .i64 (k0:Int)) (.int .i64 (k1:Int)) (.int .u64 (old:Int)) (.int .u64 (size:Int)) sv (.slice none 0 0))(own:Cv.Own W w.heap.size sv SL)(dc:dec s0.data.toList=OJ k0 k1 size old SL s.data.toList)(len:size<=2^40->SL.length<=17592186044416)(old64:old<18446744073709551616)(sz:s.size<=281474976710656) : ∃ao bb cp,TlC w p s0 k0 k1 size W s old SL ao bb cp:=by
 obtain⟨ao,bb,cp,rfl,hr,_⟩:=UH own;exact⟨ao,bb,cp,ps,own,hr,dc,len,old64,sz⟩
theorem JO{wr:World}{B:Nat}{v:Value}{l:List Nat}{q i:Nat}{a b c d e f x:Value}(h:Cv.Own wr B v l)(h6:Six wr q a b c d e f):Cv.Own (wr.setCell ⟨q,i,none⟩ x) B v l :=
 Qi h fun g hg _=>Below.heap_setCell _ _ _ _ (Y3 h h6 (by decide) g hg)
def PrQ(w:World)(p:Nat)(s:BA)(e:Ending)(w':World):Prop :=
 (∃P sv dv,dec s.data.toList=some P∧e = .returned (pv6 P.kd P.k P.old P.size sv dv)∧Cv.Own w' w.heap.size sv P.S∧Qk w' w.heap.size dv P.D∧Ch p w w') ∨
  (dec s.data.toList=none∧pan e∧Ch p w w')
theorem Ud{w:World}{p:Nat}{s:BA}{e:Ending}{w':World}(h:dec s.data.toList=none)(he:pan e)(hc:Ch p w w'):PrQ w p s e w' := .inr ⟨h,he,hc⟩
theorem Qh9(w:World)(p:Nat)(s:BA)(hr:Rdr w p s 0)(hs:s.size<=281474976710656) :
  Calls prog 58 #[.pointer (some ⟨p,0,none⟩)] w (PrQ w p s):=by
 have hp:=hr.lt;have HP:Hid (p<w.heap.size∧s.size<=281474976710656):=⟨hp,hs⟩;have P0:=Qkd w p s hr _ rfl;obtain⟨W0,yG⟩:=Ze ((w.alloc (.cells #[.int .i64 0,.int .i64 0,.int .u64 0,.int .u64 0,.slice none 0 0,.slice none 0 0] 55)).alloc (.cells #[.int .i64 0,.int .i64 0,.int .u64 0,.int .u64 0,.slice none 0 0,.slice none 0 0] 55));rw[yG] at P0;have f0:=P0.six.fz;obtain⟨e0,e1,e2,e3,e4,e5⟩:=P0.six.cells;have P1:PS w p (QZ W0 (w.heap.size+1) (.int .i64 0) (.int .i64 0) (.int .u64 0) (.int .u64 0) (.slice none 0 0) (.slice none 0 0)) s (.int .i64 0) (.int .i64 0) (.int .u64 0) (.int .u64 0) (.slice none 0 0) (.slice none 0 0):=by
  have C1:=QQ W0 (w.heap.size+1) (.int .i64 0) (.int .i64 0) (.int .u64 0) (.int .u64 0) (.slice none 0 0) (.slice none 0 0);have hb:Below (w.heap.size+1) W0 (QZ W0 (w.heap.size+1) (.int .i64 0) (.int .i64 0) (.int .u64 0) (.int .u64 0) (.slice none 0 0) (.slice none 0 0)):=C1.below (fun b hb=>by omega)
  exact⟨P0.rd.next hb (by omega),P0.ch.low (hb.mono (by omega)) hp,P0.res.same (C1.block _ (by show ¬_=_;omega)),P0.six.put (.int .i64 0) (.int .i64 0) (.int .u64 0) (.int .u64 0) (.slice none 0 0) (.slice none 0 0)⟩
 clear hr hs hp;obtain⟨W1,xY⟩:=Ze (QZ W0 (w.heap.size+1) (.int .i64 0) (.int .i64 0) (.int .u64 0) (.int .u64 0) (.slice none 0 0) (.slice none 0 0));rw[xY] at P1;unfold QZ at xY
 go_enter func58,ntmps58
 go_upto_region 2 with (fail)
 try rw[xY]
 clear xY yG P0 f0 e0 e1 e2 e3 e4 e5;have xR:=Qg P1;clear P1
 rcases hl0:s.data.toList with _|⟨b0,r0⟩
 ·have HN:=Qdj xR.out.rd (by have:=HP.out.2;omega) hl0
  have HE:Hid (∀w',Ch p W1 w'->PrQ w p s pnc w'):=fun w' hc=>Ud (by rw[hl0];rfl) Yg (xR.out.ch.trans hc)
  go_wp2_with (go_at_call 102;with_reducible refine HN.mono ?_;rintro x w1 ⟨rfl,hc⟩)
  exact⟨rfl,HE.out _ hc⟩
 have HN:=Qdk xR.out.rd (by have:=HP.out.2;omega) hl0
 go_upto_region 3 with (go_at_call 102;with_reducible refine HN.mono ?_;rintro x w1 ⟨s1,yF,rfl,q1,q2,q3⟩;(have P2:=xR.out.read HP.out.1 q1 q2);(have f0:=P2.six.fz);(obtain⟨e0,e1,e2,e3,e4,e5⟩:=P2.six.cells))
 have yN:s1.size<=281474976710656:=by have:=HP.out.2;omega
 have P3:=P2.set HP.out.1 0 _ (P2.six.set0 (.int .i64 (b0.toNat:Int)));clear q1 q2 q3 HN xR f0 e0 e1 e2 e3 e4 e5 P2;obtain⟨W3,yB⟩:=Ze (w1.setCell ⟨w.heap.size+1,0,none⟩ (.int .i64 (b0.toNat:Int)))
 try rw[yB]
 rw[yB] at P3;clear yB;obtain⟨k0,xZ⟩:=Ze b0.toNat;have yI:k0<256:=by rw[<-xZ];exact b0.toNat_lt
 rw[xZ] at P3 ⊢;have xS:=Qg P3;clear P3
 rcases hl2:s1.data.toList with _|⟨b1,r1⟩
 ·have HN:=Qdj xS.out.rd (by omega) hl2
  have HE:Hid (∀w',Ch p W3 w'->PrQ w p s pnc w'):=fun w' hc=>Ud (by rw[hl0,<-yF,hl2];rfl) Yg (xS.out.ch.trans hc)
  go_wp2_with (go_at_call 102;with_reducible refine HN.mono ?_;rintro x w1 ⟨rfl,hc⟩)
  exact⟨rfl,HE.out _ hc⟩
 have HN:=Qdk xS.out.rd (by omega) hl2
 go_upto_region 4 with (go_at_call 102;with_reducible refine HN.mono ?_;rintro x w4 ⟨s2,yK,rfl,q1,q2,q3⟩;(have P4:=xS.out.read HP.out.1 q1 q2);(have f0:=P4.six.fz);(obtain⟨e0,e1,e2,e3,e4,e5⟩:=P4.six.cells))
 have yO:s2.size<=281474976710656:=by omega
 have P5:=P4.set HP.out.1 1 _ (P4.six.set1 (.int .i64 (b1.toNat:Int)));clear q1 q2 q3 HN xS f0 e0 e1 e2 e3 e4 e5 P4 yN;obtain⟨W5,yC⟩:=Ze (w4.setCell ⟨w.heap.size+1,1,none⟩ (.int .i64 (b1.toNat:Int)))
 try rw[yC]
 rw[yC] at P5;clear yC;obtain⟨k1,yA⟩:=Ze b1.toNat;have yJ:k1<256:=by rw[<-yA];exact b1.toNat_lt
 have HD:Hid (dec s.data.toList=decA k0 k1 s2.data.toList):=by rw[hl0,<-yF,hl2,yK,<-xZ,<-yA];rfl
 rw[yA] at P5 ⊢;have xT:=Qg P5;clear P5 hl0 yF hl2 yK xZ yA;clear b0 b1 r0 r1 s1 w1 w4 W0 W1 W3
 rcases hn:nmb s2.data.toList with _|⟨size,l1⟩
 ·have HN:=U8 xT.out.rd (by omega) hn
  have HE:Hid (∀w',Ch p W5 w'->PrQ w p s pnc w'):=fun w' hc=>Ud (by rw[HD.out,Qld hn]) Yg (xT.out.ch.trans hc)
  go_wp2_with (go_at_call 103;with_reducible refine HN.mono ?_;rintro x w1 ⟨rfl,hc⟩)
  exact⟨rfl,HE.out _ hc⟩
 have HN:=U9 xT.out.rd (by omega) hn
 have xW:=QdQ hn;rw[Qi5 hn] at HD;clear hn
 go_upto_region 5 with (go_at_call 103;with_reducible refine HN.mono ?_;rintro x w4 ⟨s3,rfl,rfl,q1,q2,q3⟩;(have P6:=xT.out.read HP.out.1 q1 q2);(have f0:=P6.six.fz);(obtain⟨e0,e1,e2,e3,e4,e5⟩:=P6.six.cells))
 have yL:s3.size<=281474976710656:=by omega
 have P7:=P6.set HP.out.1 3 _ (P6.six.set3 (.int .u64 (size:Int)));clear q1 q2 q3 HN xT f0 e0 e1 e2 e3 e4 e5 P6 yO;obtain⟨W7,yD⟩:=Ze (w4.setCell ⟨w.heap.size+1,3,none⟩ (.int .u64 (size:Int)))
 try rw[yD]
 rw[yD] at P7;clear yD;clear w4 W5 s2;have xG:=Qg P7;have HZ:Hid (k0<256∧k1<256∧size<18446744073709551616∧s3.size<=281474976710656):=⟨yI,yJ,xW,yL⟩;clear P7 yI yJ xW yL
 by_cases h1:k0=1
 ·have yE:((k0:Int) == 1)=true:=beq_iff_eq.2 (by omega)
  have HK:Hid (k0=1):=h1;clear h1;obtain⟨e0,e1,e2,e3,e4,e5⟩:=xG.out.six.cells
  rcases hn:nmb s3.data.toList with _|⟨i,l2⟩
  ·have HN:=U8 xG.out.rd (by have:=HZ.out;omega) hn
   have HE:Hid (∀w',Ch p W7 w'->PrQ w p s pnc w'):=fun w' hc=>Ud (by rw[HD.out,Qdx (by rw[QeW HK.out,hn])]) Yg (xG.out.ch.trans hc)
   go_wp2_with (go_at_call 103;with_reducible refine HN.mono ?_;rintro x w1 ⟨rfl,hc⟩)
   exact⟨rfl,HE.out _ hc⟩
  have HN:=U9 xG.out.rd (by have:=HZ.out;omega) hn
  rw[JF (by rw[QeW HK.out,hn])] at HD
  clear hn
  go_upto_region 12 with (go_at_call 103;with_reducible refine HN.mono ?_;rintro x w4 ⟨s4,rfl,rfl,q1,q2,q3⟩;(have P8:=(xG.out.read HP.out.1 q1 q2).more HP.out.1 (bal (Lb _ _) (.cells #[.int .u64 (i:Int)] 28)));(have f0:=P8.six.fz);(obtain⟨e0,e1,e2,e3,e4,e5⟩:=P8.six.cells))
  have P9:=P8.set HP.out.1 4 _ (P8.six.set4 (.slice (some ⟨w4.heap.size,0,none⟩) 1 1));have O9:Cv.Own ((w4.alloc (.cells #[.int .u64 (i:Int)] 28)).setCell ⟨w.heap.size+1,4,none⟩ (.slice (some ⟨w4.heap.size,0,none⟩) 1 1)) w.heap.size (.slice (some ⟨w4.heap.size,0,none⟩) 1 1) [i]:=JO ((QjV w4 i).mono (Lz xG.out.ch.below.size q2.below.size)) P8.six;have T9:=QkE (old:=0) P9 O9 HD.out (fun _=>by simp) (by decide) (by have:=HZ.out;omega)
  clear P8 P9 O9 q1 q2 q3 HN xG HD f0 e0 e1 e2 e3 e4 e5;obtain⟨W9,xN⟩:=Ze ((w4.alloc (.cells #[.int .u64 (i:Int)] 28)).setCell ⟨w.heap.size+1,4,none⟩ (.slice (some ⟨w4.heap.size,0,none⟩) 1 1))
  try rw[xN]
  rw[xN] at T9;clear xN;obtain⟨ao,bb,cp,T9⟩:=T9;generalize [i]=SL at T9;obtain⟨old,xO⟩ : ∃old:Nat,0=old:=⟨_,rfl⟩;rw[xO] at T9;clear xO;have HT:=Qg T9;have HC:=Ua W9 k0 k1 old size ao bb 0 cp SL (.slice none 0 0) T9.old64 HZ.out.2.2.1 T9.rd T9.len;obtain⟨e0,e1,e2,e3,e4,e5⟩:=T9.ps.six.cells;clear T9
  rcases hc:cnt k0 k1 old size SL with _|c
  ·rw[hc] at HC;simp only[cV] at HC;have HE:Hid (∀w',Ch p w w'->PrQ w p s pnc w'):=fun w' hc'=>Ud (by rw[HT.out.dc,Qa4 hc]) Yg hc'
   clear hc
   go_wp2_with (first
    | (go_at_call 105;with_reducible refine HC.mono ?_;rintro x w1 ⟨rfl,hb⟩;(have xJ:=HT.out.more HP.out.1 hb))
    | (go_at_call 106;refine(Ug _ _ rfl).mono ?_;rintro x w3 ⟨rfl,rfl⟩))
   exact⟨rfl,HE.out _ xJ.ps.ch⟩
  rw[hc] at HC;simp only[cV] at HC;have xD:Hid (cnt k0 k1 old size SL=some c):=hc;clear hc
  go_upto_region 14 with (first
   | (go_at_call 105;with_reducible refine HC.mono ?_;rintro x w1 ⟨rfl,hb⟩;(have xJ:=HT.out.more HP.out.1 hb);(have xA:=Qg xJ);clear xJ hb)
   | (go_at_call 106;refine(YI _ _ rfl).mono ?_;rintro x w3 ⟨rfl,rfl⟩))
  clear HT HC e0 e1 e2 e3 e4 e5;obtain⟨e0,e1,e2,e3,e4,e5⟩:=xA.out.ps.six.cells
  by_cases hl:c*k1=s4.data.toList.length
  ·have HG:=Oo w3 p c k1 s4 xA.out.ps.rd xA.out.sz (QK xD.out).hc (by have:=(QK xD.out).k32;omega) hl
   have HL:Hid (c*k1=s4.data.toList.length):=hl;clear hl
   go_upto_region 15 with (go_at_call 107;with_reducible refine HG.mono ?_;rintro x w5 ⟨g,rfl,o5,c5,t5,r5⟩;(have xE:=xA.out.ps.read HP.out.1 r5 c5);(have f0:=xE.six.fz);(obtain⟨e0,e1,e2,e3,e4,e5⟩:=xE.six.cells))
   have xP:Cv.Own w5 w.heap.size (.slice ao SL.length cp) SL:=Qi xA.out.own fun b hb _=>c5.block b (xA.out.own.lt b hb).2 (by have:=(xA.out.own.lt b hb).1;have:=HP.out.1;omega)
   have xI:=JO (i:=5) (x := .slice (some ⟨g,0,none⟩) c c) xP xE.six;have xL:Qk w5 w.heap.size (.slice (some ⟨g,0,none⟩) c c) (YA c k1 s4.data.toList):=o5.mono xA.out.ps.ch.below.size;have xH:Qk (w5.setCell ⟨w.heap.size+1,5,none⟩ (.slice (some ⟨g,0,none⟩) c c)) w.heap.size (.slice (some ⟨g,0,none⟩) c c) (YA c k1 s4.data.toList):=Qi xL fun b hb _=>Below.heap_setCell _ _ _ _ (Y3 xL xE.six (by decide) b hb)
   have xB:=xE.set HP.out.1 5 _ (xE.six.set5 (.slice (some ⟨g,0,none⟩) c c));have xM:Hid (dec s.data.toList=some ⟨k0,k1,old,size,SL,YA c k1 s4.data.toList⟩):=xA.out.dc.trans (QbG xD.out HL.out);clear xA HG o5 c5 r5 xE xP xL f0 e0 e1 e2 e3 e4 e5 HL xD;obtain⟨xK,xF⟩:=Ze (w5.setCell ⟨w.heap.size+1,5,none⟩ (.slice (some ⟨g,0,none⟩) c c))
   try rw[xF]
   rw[xF] at xI xH xB;clear xF;obtain⟨e0,e1,e2,e3,e4,e5⟩:=xB.six.cells;obtain⟨m0,m1,m2,m3,m4,m5⟩:=xB.res.cells;have f0:=xB.res.fz;have xQ:=xB.res.put (.int .i64 (k0:Int)) (.int .i64 (k1:Int)) (.int .u64 (old:Int)) (.int .u64 (size:Int)) (.slice ao SL.length cp) (.slice (some ⟨g,0,none⟩) c c);have xC:=QQ xK w.heap.size (.int .i64 (k0:Int)) (.int .i64 (k1:Int)) (.int .u64 (old:Int)) (.int .u64 (size:Int)) (.slice ao SL.length cp) (.slice (some ⟨g,0,none⟩) c c);have HF:Hid (Cv.Own (QZ xK w.heap.size (.int .i64 (k0:Int)) (.int .i64 (k1:Int)) (.int .u64 (old:Int)) (.int .u64 (size:Int)) (.slice ao SL.length cp) (.slice (some ⟨g,0,none⟩) c c)) w.heap.size (.slice ao SL.length cp) SL∧Qk (QZ xK w.heap.size (.int .i64 (k0:Int)) (.int .i64 (k1:Int)) (.int .u64 (old:Int)) (.int .u64 (size:Int)) (.slice ao SL.length cp) (.slice (some ⟨g,0,none⟩) c c)) w.heap.size (.slice (some ⟨g,0,none⟩) c c) (YA c k1 s4.data.toList)∧Ch p w (QZ xK w.heap.size (.int .i64 (k0:Int)) (.int .i64 (k1:Int)) (.int .u64 (old:Int)) (.int .u64 (size:Int)) (.slice ao SL.length cp) (.slice (some ⟨g,0,none⟩) c c))):=by
    refine⟨Qi xI fun b hb _=>xC.block b (Y3 xI xB.res (by decide) b hb),Qi xH fun b hb _=>xC.block b (Y3 xH xB.res (by decide) b hb),xB.ch.low (xC.below (by rintro b rfl;exact Ld _)) HP.out.1⟩
   unfold QZ at xQ HF;clear xC xI xH xB;go_wp2;obtain⟨s0,s1,s2,s3,xX,s5⟩:=xQ.cells;refine Lp (v:=pv6 k0 k1 old size (.slice ao SL.length cp) (.slice (some ⟨g,0,none⟩) c c)) (by simp[results,results58,go_sem,s0,s1,s2,s3,xX,s5]) rfl ?_
   exact .inl ⟨_,_,_,xM.out,rfl,HF.out.1,HF.out.2.1,HF.out.2.2⟩
  ·have HG:=On w3 p c k1 s4 xA.out.ps.rd xA.out.sz (QK xD.out).hc (by have:=(QK xD.out).k32;omega) hl
   have HE:Hid (PrQ w p s pnc w3):=Ud (by rw[xA.out.dc,QbF xD.out hl]) Yg xA.out.ps.ch
   go_wp2_with (go_at_call 107;with_reducible refine HG.mono ?_;rintro x w5 ⟨rfl,rfl⟩)
   exact⟨rfl,HE.out⟩
 by_cases h2:k0=2
 ·have yE:((k0:Int) == 1)=false:=beq_false_of_ne (by omega)
  have yH:((k0:Int) == 2)=true:=beq_iff_eq.2 (by omega)
  have HK:Hid (k0=2):=h2;clear h1 h2;obtain⟨e0,e1,e2,e3,e4,e5⟩:=xG.out.six.cells;have HN:=Qme W7 p size s3 xG.out.rd HZ.out.2.2.2 HZ.out.2.2.1;have HE:Hid (∀w' e,Ch p W7 w'->(∀o S r,UX 2 size s3.data.toList=some (o,S,r)->2^40<size)->pan e->PrQ w p s e w'):=fun w' e hc hm he=>Ud (by rw[HD.out,Qi6 (by rw[Qc0 HK.out];exact hm)]) he (xG.out.ch.trans hc)
  go_upto_region 12 with (go_at_call 104;((with_reducible refine HN.mono ?_);rintro x w4 hq;rcases hq with ⟨SL,s4,g,c2,hm,rfl,o4,q1,q2,q3⟩|⟨hm,⟨u,v,rfl⟩,q2⟩;rotate_left;(exact⟨rfl,HE.out _ _ q2 hm ⟨u,v,rfl⟩⟩);(have P8:=xG.out.read HP.out.1 q1 q2);(have f0:=P8.six.fz);(obtain⟨e0,e1,e2,e3,e4,e5⟩:=P8.six.cells)))
  rw[JF (by rw[Qc0 HK.out];exact hm)] at HD
  have P9:=P8.set HP.out.1 4 _ (P8.six.set4 (.slice (some ⟨g,0,none⟩) SL.length c2));have O9:Cv.Own (w4.setCell ⟨w.heap.size+1,4,none⟩ (.slice (some ⟨g,0,none⟩) SL.length c2)) w.heap.size (.slice (some ⟨g,0,none⟩) SL.length c2) SL:=JO (o4.mono xG.out.ch.below.size) P8.six;have xU:size<=2^40->SL.length<=17592186044416:=fun hz=>by
   rw[U7] at hm
   split at hm
   ·cases hm
   ·split at hm
    ·split at hm
     ·cases hm
     ·rename_i hs
      cases hm;obtain⟨z1,z2,z3⟩:=QaB _ _ _ _ _ (Ll _) hs;have:=JY z3;omega
    ·cases hm
  have T9:=QkE (old:=0) P9 O9 HD.out xU (by decide) (by have:=HZ.out;omega)
  clear P8 P9 O9 o4 hm xU q1 q2 q3 HN xG HD HE f0 e0 e1 e2 e3 e4 e5;obtain⟨W9,xN⟩:=Ze (w4.setCell ⟨w.heap.size+1,4,none⟩ (.slice (some ⟨g,0,none⟩) SL.length c2))
  try rw[xN]
  rw[xN] at T9;clear xN;obtain⟨ao,bb,cp,T9⟩:=T9;obtain⟨old,xO⟩ : ∃old:Nat,0=old:=⟨_,rfl⟩;rw[xO] at T9;clear xO;have HT:=Qg T9;have HC:=Ua W9 k0 k1 old size ao bb 0 cp SL (.slice none 0 0) T9.old64 HZ.out.2.2.1 T9.rd T9.len;obtain⟨e0,e1,e2,e3,e4,e5⟩:=T9.ps.six.cells;clear T9
  rcases hc:cnt k0 k1 old size SL with _|c
  ·rw[hc] at HC;simp only[cV] at HC;have HE:Hid (∀w',Ch p w w'->PrQ w p s pnc w'):=fun w' hc'=>Ud (by rw[HT.out.dc,Qa4 hc]) Yg hc'
   clear hc
   go_wp2_with (first
    | (go_at_call 105;with_reducible refine HC.mono ?_;rintro x w1 ⟨rfl,hb⟩;(have xJ:=HT.out.more HP.out.1 hb))
    | (go_at_call 106;refine(Ug _ _ rfl).mono ?_;rintro x w3 ⟨rfl,rfl⟩))
   exact⟨rfl,HE.out _ xJ.ps.ch⟩
  rw[hc] at HC;simp only[cV] at HC;have xD:Hid (cnt k0 k1 old size SL=some c):=hc;clear hc
  go_upto_region 14 with (first
   | (go_at_call 105;with_reducible refine HC.mono ?_;rintro x w1 ⟨rfl,hb⟩;(have xJ:=HT.out.more HP.out.1 hb);(have xA:=Qg xJ);clear xJ hb)
   | (go_at_call 106;refine(YI _ _ rfl).mono ?_;rintro x w3 ⟨rfl,rfl⟩))
  clear HT HC e0 e1 e2 e3 e4 e5;obtain⟨e0,e1,e2,e3,e4,e5⟩:=xA.out.ps.six.cells
  by_cases hl:c*k1=s4.data.toList.length
  ·have HG:=Oo w3 p c k1 s4 xA.out.ps.rd xA.out.sz (QK xD.out).hc (by have:=(QK xD.out).k32;omega) hl
   have HL:Hid (c*k1=s4.data.toList.length):=hl;clear hl
   go_upto_region 15 with (go_at_call 107;with_reducible refine HG.mono ?_;rintro x w5 ⟨g,rfl,o5,c5,t5,r5⟩;(have xE:=xA.out.ps.read HP.out.1 r5 c5);(have f0:=xE.six.fz);(obtain⟨e0,e1,e2,e3,e4,e5⟩:=xE.six.cells))
   have xP:Cv.Own w5 w.heap.size (.slice ao SL.length cp) SL:=Qi xA.out.own fun b hb _=>c5.block b (xA.out.own.lt b hb).2 (by have:=(xA.out.own.lt b hb).1;have:=HP.out.1;omega)
   have xI:=JO (i:=5) (x := .slice (some ⟨g,0,none⟩) c c) xP xE.six;have xL:Qk w5 w.heap.size (.slice (some ⟨g,0,none⟩) c c) (YA c k1 s4.data.toList):=o5.mono xA.out.ps.ch.below.size;have xH:Qk (w5.setCell ⟨w.heap.size+1,5,none⟩ (.slice (some ⟨g,0,none⟩) c c)) w.heap.size (.slice (some ⟨g,0,none⟩) c c) (YA c k1 s4.data.toList):=Qi xL fun b hb _=>Below.heap_setCell _ _ _ _ (Y3 xL xE.six (by decide) b hb)
   have xB:=xE.set HP.out.1 5 _ (xE.six.set5 (.slice (some ⟨g,0,none⟩) c c));have xM:Hid (dec s.data.toList=some ⟨k0,k1,old,size,SL,YA c k1 s4.data.toList⟩):=xA.out.dc.trans (QbG xD.out HL.out);clear xA HG o5 c5 r5 xE xP xL f0 e0 e1 e2 e3 e4 e5 HL xD;obtain⟨xK,xF⟩:=Ze (w5.setCell ⟨w.heap.size+1,5,none⟩ (.slice (some ⟨g,0,none⟩) c c))
   try rw[xF]
   rw[xF] at xI xH xB;clear xF;obtain⟨e0,e1,e2,e3,e4,e5⟩:=xB.six.cells;obtain⟨m0,m1,m2,m3,m4,m5⟩:=xB.res.cells;have f0:=xB.res.fz;have xQ:=xB.res.put (.int .i64 (k0:Int)) (.int .i64 (k1:Int)) (.int .u64 (old:Int)) (.int .u64 (size:Int)) (.slice ao SL.length cp) (.slice (some ⟨g,0,none⟩) c c);have xC:=QQ xK w.heap.size (.int .i64 (k0:Int)) (.int .i64 (k1:Int)) (.int .u64 (old:Int)) (.int .u64 (size:Int)) (.slice ao SL.length cp) (.slice (some ⟨g,0,none⟩) c c);have HF:Hid (Cv.Own (QZ xK w.heap.size (.int .i64 (k0:Int)) (.int .i64 (k1:Int)) (.int .u64 (old:Int)) (.int .u64 (size:Int)) (.slice ao SL.length cp) (.slice (some ⟨g,0,none⟩) c c)) w.heap.size (.slice ao SL.length cp) SL∧Qk (QZ xK w.heap.size (.int .i64 (k0:Int)) (.int .i64 (k1:Int)) (.int .u64 (old:Int)) (.int .u64 (size:Int)) (.slice ao SL.length cp) (.slice (some ⟨g,0,none⟩) c c)) w.heap.size (.slice (some ⟨g,0,none⟩) c c) (YA c k1 s4.data.toList)∧Ch p w (QZ xK w.heap.size (.int .i64 (k0:Int)) (.int .i64 (k1:Int)) (.int .u64 (old:Int)) (.int .u64 (size:Int)) (.slice ao SL.length cp) (.slice (some ⟨g,0,none⟩) c c))):=by
    refine⟨Qi xI fun b hb _=>xC.block b (Y3 xI xB.res (by decide) b hb),Qi xH fun b hb _=>xC.block b (Y3 xH xB.res (by decide) b hb),xB.ch.low (xC.below (by rintro b rfl;exact Ld _)) HP.out.1⟩
   unfold QZ at xQ HF;clear xC xI xH xB;go_wp2;obtain⟨s0,s1,s2,s3,xX,s5⟩:=xQ.cells;refine Lp (v:=pv6 k0 k1 old size (.slice ao SL.length cp) (.slice (some ⟨g,0,none⟩) c c)) (by simp[results,results58,go_sem,s0,s1,s2,s3,xX,s5]) rfl ?_
   exact .inl ⟨_,_,_,xM.out,rfl,HF.out.1,HF.out.2.1,HF.out.2.2⟩
  ·have HG:=On w3 p c k1 s4 xA.out.ps.rd xA.out.sz (QK xD.out).hc (by have:=(QK xD.out).k32;omega) hl
   have HE:Hid (PrQ w p s pnc w3):=Ud (by rw[xA.out.dc,QbF xD.out hl]) Yg xA.out.ps.ch
   go_wp2_with (go_at_call 107;with_reducible refine HG.mono ?_;rintro x w5 ⟨rfl,rfl⟩)
   exact⟨rfl,HE.out⟩
 by_cases h3:k0=3
 ·have yE:((k0:Int) == 1)=false:=beq_false_of_ne (by omega)
  have yH:((k0:Int) == 2)=false:=beq_false_of_ne (by omega)
  have yM:((k0:Int) == 3)=true:=beq_iff_eq.2 (by omega)
  have HK:Hid (k0=3):=h3;clear h1 h2 h3;obtain⟨e0,e1,e2,e3,e4,e5⟩:=xG.out.six.cells
  rcases hn:nmb s3.data.toList with _|⟨old,l2⟩
  ·have HN:=U8 xG.out.rd (by have:=HZ.out;omega) hn
   have HE:Hid (∀w',Ch p W7 w'->PrQ w p s pnc w'):=fun w' hc=>Ud (by rw[HD.out,Qdx (by rw[Qb7 HK.out,hn])]) Yg (xG.out.ch.trans hc)
   go_wp2_with (go_at_call 103;with_reducible refine HN.mono ?_;rintro x w1 ⟨rfl,hc⟩)
   exact⟨rfl,HE.out _ hc⟩
  have HN:=U9 xG.out.rd (by have:=HZ.out;omega) hn
  have xV:=QdQ hn;rw[JF (by rw[Qb7 HK.out,hn])] at HD
  clear hn
  go_upto_region 12 with (go_at_call 103;with_reducible refine HN.mono ?_;rintro x w4 ⟨s4,rfl,rfl,q1,q2,q3⟩;(have P8:=xG.out.read HP.out.1 q1 q2);(have f0:=P8.six.fz);(obtain⟨e0,e1,e2,e3,e4,e5⟩:=P8.six.cells))
  have P9:=P8.set HP.out.1 2 _ (P8.six.set2 (.int .u64 (old:Int)));have T9:=QkE P9 (LT _ _ _ _) HD.out (fun _=>by simp) xV (by have:=HZ.out;omega)
  clear P8 P9 q1 q2 q3 HN xG HD f0 e0 e1 e2 e3 e4 e5 xV;obtain⟨W9,xN⟩:=Ze (w4.setCell ⟨w.heap.size+1,2,none⟩ (.int .u64 (old:Int)))
  try rw[xN]
  rw[xN] at T9;clear xN;obtain⟨ao,bb,cp,T9⟩:=T9;obtain⟨SL,xU⟩ : ∃SL:List Nat,[]=SL:=⟨_,rfl⟩;rw[xU] at T9;clear xU;have HT:=Qg T9;have HC:=Ua W9 k0 k1 old size ao bb 0 cp SL (.slice none 0 0) T9.old64 HZ.out.2.2.1 T9.rd T9.len;obtain⟨e0,e1,e2,e3,e4,e5⟩:=T9.ps.six.cells;clear T9
  rcases hc:cnt k0 k1 old size SL with _|c
  ·rw[hc] at HC;simp only[cV] at HC;have HE:Hid (∀w',Ch p w w'->PrQ w p s pnc w'):=fun w' hc'=>Ud (by rw[HT.out.dc,Qa4 hc]) Yg hc'
   clear hc
   go_wp2_with (first
    | (go_at_call 105;with_reducible refine HC.mono ?_;rintro x w1 ⟨rfl,hb⟩;(have xJ:=HT.out.more HP.out.1 hb))
    | (go_at_call 106;refine(Ug _ _ rfl).mono ?_;rintro x w3 ⟨rfl,rfl⟩))
   exact⟨rfl,HE.out _ xJ.ps.ch⟩
  rw[hc] at HC;simp only[cV] at HC;have xD:Hid (cnt k0 k1 old size SL=some c):=hc;clear hc
  go_upto_region 14 with (first
   | (go_at_call 105;with_reducible refine HC.mono ?_;rintro x w1 ⟨rfl,hb⟩;(have xJ:=HT.out.more HP.out.1 hb);(have xA:=Qg xJ);clear xJ hb)
   | (go_at_call 106;refine(YI _ _ rfl).mono ?_;rintro x w3 ⟨rfl,rfl⟩))
  clear HT HC e0 e1 e2 e3 e4 e5;obtain⟨e0,e1,e2,e3,e4,e5⟩:=xA.out.ps.six.cells
  by_cases hl:c*k1=s4.data.toList.length
  ·have HG:=Oo w3 p c k1 s4 xA.out.ps.rd xA.out.sz (QK xD.out).hc (by have:=(QK xD.out).k32;omega) hl
   have HL:Hid (c*k1=s4.data.toList.length):=hl;clear hl
   go_upto_region 15 with (go_at_call 107;with_reducible refine HG.mono ?_;rintro x w5 ⟨g,rfl,o5,c5,t5,r5⟩;(have xE:=xA.out.ps.read HP.out.1 r5 c5);(have f0:=xE.six.fz);(obtain⟨e0,e1,e2,e3,e4,e5⟩:=xE.six.cells))
   have xP:Cv.Own w5 w.heap.size (.slice ao SL.length cp) SL:=Qi xA.out.own fun b hb _=>c5.block b (xA.out.own.lt b hb).2 (by have:=(xA.out.own.lt b hb).1;have:=HP.out.1;omega)
   have xI:=JO (i:=5) (x := .slice (some ⟨g,0,none⟩) c c) xP xE.six;have xL:Qk w5 w.heap.size (.slice (some ⟨g,0,none⟩) c c) (YA c k1 s4.data.toList):=o5.mono xA.out.ps.ch.below.size;have xH:Qk (w5.setCell ⟨w.heap.size+1,5,none⟩ (.slice (some ⟨g,0,none⟩) c c)) w.heap.size (.slice (some ⟨g,0,none⟩) c c) (YA c k1 s4.data.toList):=Qi xL fun b hb _=>Below.heap_setCell _ _ _ _ (Y3 xL xE.six (by decide) b hb)
   have xB:=xE.set HP.out.1 5 _ (xE.six.set5 (.slice (some ⟨g,0,none⟩) c c));have xM:Hid (dec s.data.toList=some ⟨k0,k1,old,size,SL,YA c k1 s4.data.toList⟩):=xA.out.dc.trans (QbG xD.out HL.out);clear xA HG o5 c5 r5 xE xP xL f0 e0 e1 e2 e3 e4 e5 HL xD;obtain⟨xK,xF⟩:=Ze (w5.setCell ⟨w.heap.size+1,5,none⟩ (.slice (some ⟨g,0,none⟩) c c))
   try rw[xF]
   rw[xF] at xI xH xB;clear xF;obtain⟨e0,e1,e2,e3,e4,e5⟩:=xB.six.cells;obtain⟨m0,m1,m2,m3,m4,m5⟩:=xB.res.cells;have f0:=xB.res.fz;have xQ:=xB.res.put (.int .i64 (k0:Int)) (.int .i64 (k1:Int)) (.int .u64 (old:Int)) (.int .u64 (size:Int)) (.slice ao SL.length cp) (.slice (some ⟨g,0,none⟩) c c);have xC:=QQ xK w.heap.size (.int .i64 (k0:Int)) (.int .i64 (k1:Int)) (.int .u64 (old:Int)) (.int .u64 (size:Int)) (.slice ao SL.length cp) (.slice (some ⟨g,0,none⟩) c c);have HF:Hid (Cv.Own (QZ xK w.heap.size (.int .i64 (k0:Int)) (.int .i64 (k1:Int)) (.int .u64 (old:Int)) (.int .u64 (size:Int)) (.slice ao SL.length cp) (.slice (some ⟨g,0,none⟩) c c)) w.heap.size (.slice ao SL.length cp) SL∧Qk (QZ xK w.heap.size (.int .i64 (k0:Int)) (.int .i64 (k1:Int)) (.int .u64 (old:Int)) (.int .u64 (size:Int)) (.slice ao SL.length cp) (.slice (some ⟨g,0,none⟩) c c)) w.heap.size (.slice (some ⟨g,0,none⟩) c c) (YA c k1 s4.data.toList)∧Ch p w (QZ xK w.heap.size (.int .i64 (k0:Int)) (.int .i64 (k1:Int)) (.int .u64 (old:Int)) (.int .u64 (size:Int)) (.slice ao SL.length cp) (.slice (some ⟨g,0,none⟩) c c))):=by
    refine⟨Qi xI fun b hb _=>xC.block b (Y3 xI xB.res (by decide) b hb),Qi xH fun b hb _=>xC.block b (Y3 xH xB.res (by decide) b hb),xB.ch.low (xC.below (by rintro b rfl;exact Ld _)) HP.out.1⟩
   unfold QZ at xQ HF;clear xC xI xH xB;go_wp2;obtain⟨s0,s1,s2,s3,xX,s5⟩:=xQ.cells;refine Lp (v:=pv6 k0 k1 old size (.slice ao SL.length cp) (.slice (some ⟨g,0,none⟩) c c)) (by simp[results,results58,go_sem,s0,s1,s2,s3,xX,s5]) rfl ?_
   exact .inl ⟨_,_,_,xM.out,rfl,HF.out.1,HF.out.2.1,HF.out.2.2⟩
  ·have HG:=On w3 p c k1 s4 xA.out.ps.rd xA.out.sz (QK xD.out).hc (by have:=(QK xD.out).k32;omega) hl
   have HE:Hid (PrQ w p s pnc w3):=Ud (by rw[xA.out.dc,QbF xD.out hl]) Yg xA.out.ps.ch
   go_wp2_with (go_at_call 107;with_reducible refine HG.mono ?_;rintro x w5 ⟨rfl,rfl⟩)
   exact⟨rfl,HE.out⟩
 have yE:((k0:Int) == 1)=false:=beq_false_of_ne (by omega)
 have yH:((k0:Int) == 2)=false:=beq_false_of_ne (by omega)
 have yM:((k0:Int) == 3)=false:=beq_false_of_ne (by omega)
 obtain⟨e0,e1,e2,e3,e4,e5⟩:=xG.out.six.cells;rw[JF (QfY h1 h2 h3)] at HD;have HC:Zr 105 #[.agg #[.int .i64 (k0:Int),.int .i64 (k1:Int),.int .u64 0,.int .u64 (size:Int),.slice none 0 0,.slice none 0 0]] W7 (.tuple #[.int .u64 0,.int .i64 150]):=by
  have:=Ua W7 k0 k1 0 size none 0 0 0 [] (.slice none 0 0) (by decide) HZ.out.2.2.1 ⟨rfl,fun h=>absurd h (NG 0),fun j v h=>by cases h⟩ (fun _=>by simp)
  rw[JZ (by omega) (by omega) (by omega)] at this
  exact this
 have HE:Hid (∀w',Zb W7 w'->PrQ w p s pnc w'):=fun w' hb=>Ud (by rw[HD.out,Qa4 (JZ (by omega) (by omega) (by omega))]) Yg (xG.out.more HP.out.1 hb).ch
 clear h1 h2 h3 xG
 go_wp2_with (first
  | (go_at_call 105;with_reducible refine HC.mono ?_;rintro x w1 ⟨rfl,hb⟩)
  | (go_at_call 106;refine(Ug _ _ rfl).mono ?_;rintro x w3 ⟨rfl,rfl⟩))
 exact⟨rfl,HE.out _ hb⟩
def Er(w:World)(b:Nat)(e:Int):Prop:=w.heap[b]? = some (.cells #[.int .i64 e] 31 (0,0))
theorem Er.cell{w:World}{b:Nat}{e:Int}(h:Er w b e):w.cell? ⟨b,0,none⟩=some (.int .i64 e):=by rw[cell_of_row w b 0 _ _ (0,0) h];rfl
theorem Er.fz{w:World}{b:Nat}{e:Int}(h:Er w b e):w.frozen? ⟨b,0,none⟩=false:=frozen_of_row w b 0 _ _ h
theorem Er.same{w W:World}{b:Nat}{e:Int}(h:Er w b e)(hb:W.heap[b]? = w.heap[b]?):Er W b e:=hb.trans h
theorem Er.set{w:World}{b:Nat}{e:Int}(h:Er w b e)(e':Int):Er (w.setCell ⟨b,0,none⟩ (.int .i64 e')) b e':=LI w b 0 _ _ (.int .i64 e') h
theorem QaX(a b:Nat)(u:TypeId)(pv:Value)(older:List PanicEntry)(w:World){x0 x1 x2 x3 x4 x5:Value}{e:Int}(h6:Six w a x0 x1 x2 x3 x4 x5)(he:Er w b e)(hne:a≠b) :
  CallsD prog 57 #[.pointer (some ⟨a,0,none⟩),.pointer (some ⟨b,0,none⟩)] (.panicking ({ v := .iface u pv,recovered:=false } :: older)) w fun e u' w' =>
   e = .returned (.tuple #[])∧u' = .panicking ({ v := .iface u pv,recovered:=true } :: older)∧w'=(QZ w a (.int .i64 0) (.int .i64 0) (.int .u64 0) (.int .u64 0) (.slice none 0 0) (.slice none 0 0)).setCell ⟨b,0,none⟩ (.int .i64 140):=by
 obtain⟨c0,c1,c2,c3,c4,c5⟩:=h6.cells;have f0:=h6.fz;have g0:=he.cell;have g1:=he.fz;have xA : ¬b=a:=fun h=>hne h.symm
 refine callsD_of_wpS func57 rfl fun c₀ cs hu => ?_
 apply wpS_seq
 apply wpS_region
 simp[wpOpsS,go_sem,recoverD,hu,ntmps57,Exit.thenS];refine wpS_cond (t:=true) (by simp[Act.eval,Array.replicate]) ?_
 simp only[if_true];refine wpS_of_wp ?_
 have ht:(#[Value.pointer (some ⟨a,0,none⟩),Value.pointer (some ⟨b,0,none⟩)]++((Array.replicate 3 undef).setIfInBounds 0 (Value.iface u pv)).setIfInBounds 1 (Value.bool true):Array Value)=#[Value.pointer (some ⟨a,0,none⟩),Value.pointer (some ⟨b,0,none⟩),Value.iface u pv,Value.bool true,undef]:=rfl;rw[ht];have k6:=h6.put (.int .i64 0) (.int .i64 0) (.int .u64 0) (.int .u64 0) (.slice none 0 0) (.slice none 0 0);have kc:=QQ w a (.int .i64 0) (.int .i64 0) (.int .u64 0) (.int .u64 0) (.slice none 0 0) (.slice none 0 0);have ke:=he.same (kc.block b (by show ¬_=_;exact xA))
 have k0:=ke.cell;have k1:=ke.fz;unfold QZ at k0 k1 ⊢;clear k6 kc ke h6 he;go_wp2;simp[bodyPostS,results,results57]
theorem QfI(a b:Nat)(w:World) :
  CallsD prog 57 #[.pointer (some ⟨a,0,none⟩),.pointer (some ⟨b,0,none⟩)] .returning w fun e u' w'=>e = .returned (.tuple #[])∧u' = .returning∧w'=w:=by
 refine callsD_of_wpS func57 rfl fun c₀ cs hu => ?_
 apply wpS_seq
 apply wpS_region
 simp[wpOpsS,go_sem,recoverD,hu,ntmps57,Exit.thenS];refine wpS_cond (t:=false) (by simp[Act.eval,Array.replicate]) ?_
 simp only[Bool.false_eq_true,if_false];refine wpS_of_wp (wp_skip ?_)
 cases c₀
 simp_all [bodyPostS,results,results57]
def DecQ(w:World)(s:BA)(e:Ending)(w':World):Prop :=
 (∃P sv dv,dec s.data.toList=some P∧e = .returned (.tuple #[pv6 P.kd P.k P.old P.size sv dv,.int .i64 0])∧Cv.Own w' w.heap.size sv P.S∧Qk w' w.heap.size dv P.D∧Zb w w') ∨
  (dec s.data.toList=none∧e = .returned (.tuple #[noP,.int .i64 140])∧Zb w w')
structure D2(w W:World):Prop where
 six:Six W w.heap.size (.int .i64 0) (.int .i64 0) (.int .u64 0) (.int .u64 0) (.slice none 0 0) (.slice none 0 0)
 er:Er W (w.heap.size+1) 0
 below:Zb w W
theorem D2.next{w W W':World}(h:D2 w W)(hb : ∀b,b<w.heap.size+2->W'.heap[b]? = W.heap[b]?)(hw:Zb w W'):D2 w W' :=
 ⟨h.six.same (hb _ (by omega)),h.er.same (hb _ (by omega)),hw⟩
theorem Qnd(w:World)(o1 o2:Obj)(h1:o1 = .cells #[.int .i64 0,.int .i64 0,.int .u64 0,.int .u64 0,.slice none 0 0,.slice none 0 0] 55)(h2:o2 = .cells #[.int .i64 0] 31):D2 w ((w.alloc o1).alloc o2):=by
 subst h1 h2;refine⟨(Q8 w _ _ _ _ _ _).next (bal (Lb _ _) _),?_,bal (bal (Lb _ _) _) _⟩
 have:=Lu (w.alloc (.cells #[.int .i64 0,.int .i64 0,.int .u64 0,.int .u64 0,.slice none 0 0,.slice none 0 0] 55)) (.cells #[.int .i64 0] 31);rw[LA] at this;exact this
theorem QbH(w:World)(s:BA)(hs:s.size<=281474976710656) :
  Calls prog 25 #[.string s] w (DecQ w s):=by
 have xP : ∀(fn:Go.Fn) (first cap:Array Value) (w:World),(Instr.makeFunc fn first cap).run prog w = .ok (.func fn first cap) w:=fun _ _ _ _=>rfl
 have K0:=Qnd w _ _ rfl rfl;obtain⟨W0,xD⟩:=Ze ((w.alloc (.cells #[.int .i64 0,.int .i64 0,.int .u64 0,.int .u64 0,.slice none 0 0,.slice none 0 0] 55)).alloc (.cells #[.int .i64 0] 31));have xM:W0.heap.size=w.heap.size+2:=by rw[<-xD];simp
 rw[xD] at K0;have HW:=QjO W0 s;have HP:=Qh9 (W0.alloc (.cells #[.string s,.int .i64 0] 150)) W0.heap.size s (Ql1 W0 s _) hs;have xE:(W0.alloc (.cells #[.string s,.int .i64 0] 150)).heap.size=W0.heap.size+1:=LA _ _;have xJ:=bal (Lb W0.heap.size W0) (.cells #[.string s,.int .i64 0] 150);have HK:Hid (∀w2,Ch W0.heap.size (W0.alloc (.cells #[.string s,.int .i64 0] 150)) w2->D2 w w2):=fun w2 hc=>K0.next (fun b hb=>(hc.block b (by omega) (by omega)).trans (xJ.block b (by omega))) ((K0.below.trans (xJ.mono (by omega))).trans (hc.below.mono (by omega)))
 have HZ:Hid (w.heap.size<=(W0.alloc (.cells #[.string s,.int .i64 0] 150)).heap.size):=(by rw[xE];omega:w.heap.size<=(W0.alloc (.cells #[.string s,.int .i64 0] 150)).heap.size)
 clear K0 xM hs xJ xE;obtain⟨W1,xK⟩:=Ze (W0.alloc (.cells #[.string s,.int .i64 0] 150));rw[xK] at HW HP HK HZ;clear xK;obtain⟨q,hq⟩:=Ze W0.heap.size;rw[hq] at HW HP HK;clear hq
 cases hd:dec s.data.toList with
 | none =>
  have xF:Calls prog 58 #[.pointer (some ⟨q,0,none⟩)] W1 fun e w'=>(∃u v,e = .panicked [{ v := .iface u v,recovered:=false }])∧Ch q W1 w':=HP.mono fun e w' h=>by
   rcases h with ⟨P,_,_,h,_⟩|⟨_,h1,h2⟩
   ·rw[hd] at h;cases h
   ·exact⟨h1,h2⟩
  clear HP
  go_enter_defers func25,ntmps25
  go_upto_region 2 with (fail)
  try rw[xD]
  clear xD
  go_wp2_with (first
   | (go_at_call 59;with_reducible refine HW.mono ?_;rintro x w1 ⟨rfl,rfl⟩)
   | (go_at_call 58;with_reducible refine xF.mono ?_;rintro x w2 ⟨⟨u,v,rfl⟩,hc⟩))
  refine leaves_cons (f:=57) (args:=#[.pointer (some ⟨w.heap.size,0,none⟩),.pointer (some ⟨w.heap.size+1,0,none⟩)]) (by simp) (by simp[go_sem]) ?_
  have K:=HK.out _ hc;refine(QaX _ _ u v [] _ K.six K.er (by omega)).mono ?_
  rintro e u' xO ⟨rfl,rfl,rfl⟩;have h6:=K.six.put (.int .i64 0) (.int .i64 0) (.int .u64 0) (.int .u64 0) (.slice none 0 0) (.slice none 0 0);have kc:=QQ w2 w.heap.size (.int .i64 0) (.int .i64 0) (.int .u64 0) (.int .u64 0) (.slice none 0 0) (.slice none 0 0);have ke:=(K.er.same (kc.block _ (by show ¬_=_;omega))).set 140
  have xH:Zb w (QZ w2 w.heap.size (.int .i64 0) (.int .i64 0) (.int .u64 0) (.int .u64 0) (.slice none 0 0) (.slice none 0 0)):=K.below.trans (kc.below (by rintro b rfl;exact Ld _))
  have xI:=xH.setCell (p:=⟨w.heap.size+1,0,none⟩) (by show w.heap.size<=w.heap.size+1;omega) (.int .i64 140)
  have xG:=h6.same (W:=(QZ w2 w.heap.size (.int .i64 0) (.int .i64 0) (.int .u64 0) (.int .u64 0) (.slice none 0 0) (.slice none 0 0)).setCell ⟨w.heap.size+1,0,none⟩ (.int .i64 140)) (Below.heap_setCell _ _ _ _ (by show w.heap.size≠w.heap.size+1;omega))
  obtain⟨s0,s1,s2,s3,s4,s5⟩:=xG.cells;have t0:=ke.cell;have HF:Hid (DecQ w s (.returned (.tuple #[noP,.int .i64 140])) ((QZ w2 w.heap.size (.int .i64 0) (.int .i64 0) (.int .u64 0) (.int .u64 0) (.slice none 0 0) (.slice none 0 0)).setCell ⟨w.heap.size+1,0,none⟩ (.int .i64 140))) := .inr ⟨hd,rfl,xI⟩;generalize (QZ w2 w.heap.size (.int .i64 0) (.int .i64 0) (.int .u64 0) (.int .u64 0) (.slice none 0 0) (.slice none 0 0)).setCell ⟨w.heap.size+1,0,none⟩ (.int .i64 140)=F at *;simp[Leaves,settle,results,results25,go_sem,s0,s1,s2,s3,s4,s5,t0];exact HF.out
 | some P =>
  have xF:Calls prog 58 #[.pointer (some ⟨q,0,none⟩)] W1 fun e w' => ∃sv dv,e = .returned (pv6 P.kd P.k P.old P.size sv dv)∧Cv.Own w' W1.heap.size sv P.S∧Qk w' W1.heap.size dv P.D∧Ch q W1 w':=HP.mono fun e w' h=>by
   rcases h with ⟨P',sv,dv,h,h2⟩|⟨h,_⟩
   ·rw[hd] at h;cases h;exact⟨sv,dv,h2⟩
   ·rw[hd] at h;cases h
  clear HP;obtain⟨kd,k,xC,xA,S,D⟩:=P;simp only at xF;have HD:=Qg hd;clear hd
  go_enter_defers func25,ntmps25
  go_upto_region 2 with (fail)
  try rw[xD]
  clear xD
  go_wp2_with (first
   | (go_at_call 59;with_reducible refine HW.mono ?_;rintro x w1 ⟨rfl,rfl⟩)
   | (go_at_call 58;(with_reducible refine xF.mono ?_);rintro x w2 ⟨sv,dv,rfl,o1,o2,hc⟩;(obtain⟨ao,m,c,rfl⟩:=Cv.Qj o1);(obtain⟨xB,m2,c2,rfl⟩:=Cv.Qj o2);(have K:=HK.out _ hc);(obtain⟨e0,e1,e2,e3,e4,e5⟩:=K.six.cells);(have f0:=K.six.fz);(have kc:=QQ w2 w.heap.size (.int .i64 kd) (.int .i64 k) (.int .u64 (xC:Int)) (.int .u64 (xA:Int)) (.slice ao m c) (.slice xB m2 c2));(have ke:=K.er.same (kc.block _ (by show ¬_=_;omega)));(have k0:=ke.cell);(have k1:=ke.fz);(unfold QZ at k0 k1);(have HH:Hid (Cv.Own w2 w1.heap.size (.slice ao m c) S∧Qk w2 w1.heap.size (.slice xB m2 c2) D∧D2 w w2):=⟨o1,o2,K⟩);clear o1 o2 hc K kc ke))
  refine leaves_cons (f:=57) (args:=#[.pointer (some ⟨w.heap.size,0,none⟩),.pointer (some ⟨w.heap.size+1,0,none⟩)]) (by simp) (by simp[go_sem]) ?_
  refine(QfI _ _ _).mono ?_
  rintro e u' xO ⟨rfl,rfl,rfl⟩;obtain⟨o1,o2,K⟩:=HH.out;have h6:=K.six.put (.int .i64 kd) (.int .i64 k) (.int .u64 (xC:Int)) (.int .u64 (xA:Int)) (.slice ao m c) (.slice xB m2 c2);have kc:=QQ w2 w.heap.size (.int .i64 kd) (.int .i64 k) (.int .u64 (xC:Int)) (.int .u64 (xA:Int)) (.slice ao m c) (.slice xB m2 c2);have xN:=K.er.same (kc.block _ (by show ¬_=_;omega))
  have ke:=xN.set 0;have xH:Zb w (QZ w2 w.heap.size (.int .i64 kd) (.int .i64 k) (.int .u64 (xC:Int)) (.int .u64 (xA:Int)) (.slice ao m c) (.slice xB m2 c2)):=K.below.trans (kc.below (by rintro b rfl;exact Ld _))
  have xI:=xH.setCell (p:=⟨w.heap.size+1,0,none⟩) (by show w.heap.size<=w.heap.size+1;omega) (.int .i64 0)
  have xG:=h6.same (W:=(QZ w2 w.heap.size (.int .i64 kd) (.int .i64 k) (.int .u64 (xC:Int)) (.int .u64 (xA:Int)) (.slice ao m c) (.slice xB m2 c2)).setCell ⟨w.heap.size+1,0,none⟩ (.int .i64 0)) (Below.heap_setCell _ _ _ _ (by show w.heap.size≠w.heap.size+1;omega))
  have xL : ∀ {e n:Nat} {v:Value} {xs:List Value},w2.ownsRow w1.heap.size e 1 v n xs->e≠55->e≠31->((QZ w2 w.heap.size (.int .i64 kd) (.int .i64 k) (.int .u64 (xC:Int)) (.int .u64 (xA:Int)) (.slice ao m c) (.slice xB m2 c2)).setCell ⟨w.heap.size+1,0,none⟩ (.int .i64 0)).ownsRow w.heap.size e 1 v n xs:=fun {e n v xs} ho h1 h2=>by
   refine Qi (ho.mono HZ.out) fun g hg _ => ?_
   have n1:=Y3 ho K.six h1 g hg;have n2:g≠w.heap.size+1:=by
    rintro rfl
    rcases ho.2 with ⟨rfl,_⟩|⟨g',cap,cur,rfl,_,hh,_⟩
    ·cases hg
    ·cases hg;have:=K.er;rw[Er,hh] at this;injection this with this
     injection this with _ e2 _
     exact h2 e2
   rw[Below.heap_setCell _ _ _ _ (by show g≠w.heap.size+1;exact n2)]
   exact kc.block g n1
  obtain⟨s0,s1,s2,s3,s4,s5⟩:=xG.cells;have t0:=ke.cell;have HF:Hid (DecQ w s (.returned (.tuple #[pv6 kd k xC xA (.slice ao m c) (.slice xB m2 c2),.int .i64 0])) ((QZ w2 w.heap.size (.int .i64 kd) (.int .i64 k) (.int .u64 (xC:Int)) (.int .u64 (xA:Int)) (.slice ao m c) (.slice xB m2 c2)).setCell ⟨w.heap.size+1,0,none⟩ (.int .i64 0))) := .inl ⟨_,_,_,HD.out,rfl,xL o1 (by decide) (by decide),xL o2 (by decide) (by decide),xI⟩
  unfold QZ at HF s0 s1 s2 s3 s4 s5 t0;simp[Leaves,settle,results,results25,go_sem,s0,s1,s2,s3,s4,s5,t0];exact HF.out
section
open Cv (QT)
theorem QiW : ∀ {S:List Nat} {x n:Nat},QT x S n -> ∀j,j<S.length->nxt x (S.take j)<=S.getD j 0∧S.getD j 0<n:=by
 intro S
 induction S with
 | nil=>intro x n _ j hj;simp at hj
 | cons i S ih =>
  intro x n h j hj
  cases j with
  | zero=>exact⟨h.1,by have:=Cv.YW h.2;simp;omega⟩
  | succ j=>have:=ih h.2 j (by simpa using hj);simpa [nxt] using this
theorem QjD : ∀ {S:List Nat} {x n:Nat},QT x S n->n<=2^64->(Qq x S).length<=10*S.length:=by
 intro S
 induction S with
 | nil=>intro x n _ _;simp[Qq]
 | cons i S ih =>
  intro x n h hn;have:=ih h.2 hn;have:=Cv.YW h.2;have:=Ym (n:=i - x) (by omega)
  rw[Qq,Lg,Lt];omega
theorem UN{S:List Nat}{j:Nat}(hj:j<S.length):S.take (j+1)=S.take j++[S.getD j 0]:=by
 rw[Nz,Lc hj,La,Lc hj];rfl
def hd(p:PV):List UInt8:=UInt8.ofNat p.kd.toNat::UInt8.ofNat p.k.toNat::(num p.size++mid p)
theorem Qnh(p:PV):enc p=hd p++QD p.D:=by simp[enc,hd,List.append_assoc]
theorem Ux(a b:List UInt8):(⟨a.toArray⟩:BA)++⟨b.toArray⟩=⟨(a++b).toArray⟩:=by
 apply Qbu
 rw[IQ];simp
theorem QiJ(w:World)(a b:Nat)(ha:a<256)(hb:b<256):(convert 95 9 (.slice (some ⟨w.heap.size,0,none⟩) 2 2)).run prog (w.alloc (.cells #[.int .u8 (a:Int),.int .u8 (b:Int)] 5)) = .ok (.string ⟨[UInt8.ofNat a,UInt8.ofNat b].toArray⟩) (w.alloc (.cells #[.int .u8 (a:Int),.int .u8 (b:Int)] 5)):=by
 refine run_convert_bytes_back _ 95 9 5 ⟨w.heap.size,0,none⟩ 2 [UInt8.ofNat a,UInt8.ofNat b] underlying95 underlying5 underlying9 fun j hj => ?_
 rw[Addr.add_mid];have h1:=QB ha;have h2:=QB hb;refine Qu w [.int .u8 (a:Int),.int .u8 (b:Int)] 5 j _ ?_
 match j,hj with
 | 0,_=>simp[h1]
 | 1,_=>simp[h2]
theorem QnN{W:World}{g a b:Nat}(ha:a<256)(hb:b<256)(h:W.heap[g]? = some (.cells #[.int .u8 (a:Int),.int .u8 (b:Int)] 5 (0,0))):(convert 95 9 (.slice (some ⟨g,0,none⟩) 2 2)).run prog W = .ok (.string ⟨[UInt8.ofNat a,UInt8.ofNat b].toArray⟩) W:=by
 refine run_convert_bytes_back _ 95 9 5 ⟨g,0,none⟩ 2 [UInt8.ofNat a,UInt8.ofNat b] underlying95 underlying5 underlying9 fun j hj => ?_
 rw[Addr.add_mid,Lr,cell_of_row W g j _ _ (0,0) h];have h1:=QB ha;have h2:=QB hb
 match j,hj with
 | 0,_=>simp[h1]
 | 1,_=>simp[h2]
end
structure RdPC(w:World)(sa:OA)(sb so sc:Nat)(da:OA)(db dO dc:Nat)(P:PV):Prop where
 rs:RdU w sa sb so P.S.length P.S
 rd:RdS w da db dO P.D.length P.D
 old64:P.old<18446744073709551616
 sz64:P.size<18446744073709551616
 mS:P.S.length<=17592186044416
 mD:P.D.length<=8796093022208
 cD:P.D.length<=dc
theorem RdPC.next{w w':World}{sa:OA}{sb so sc:Nat}{da:OA}{db dO dc:Nat}{P:PV}(h:RdPC w sa sb so sc da db dO dc P)(hb:Zb w w'):RdPC w' sa sb so sc da db dO dc P :=
 ⟨h.rs.next hb,h.rd.next hb (Ld _),h.old64,h.sz64,h.mS,h.mD,h.cD⟩
abbrev pvP(P:PV)(sa:OA)(sc:Nat)(da:OA)(dc:Nat):Value:=pv6 P.kd P.k P.old P.size (.slice sa P.S.length sc) (.slice da P.D.length dc)
theorem Qmz{P:PV}{j:Nat}(hj:j<P.D.length)(h:((P.D.getD j ByteArray.empty).size:Int)≠P.k) : ¬Y7 P:=fun hw=>h (hw.2 _ (Qv hj))
theorem QkR{P:PV}(hc:cnt P.kd P.k P.old P.size P.S=some P.D.length)(h : ∀j,j<P.D.length->((P.D.getD j ByteArray.empty).size:Int)=P.k):Y7 P :=
 ⟨hc,fun d hd=>by
  obtain⟨j,hj,rfl⟩:=LS hd;have:=h j hj
  rwa [La,Lc hj] at this⟩
section
variable (w:World) (sa:OA) (sb so sc:Nat) (da:OA) (db dO dc:Nat) (P:PV)
theorem Qno{P:PV}{c:Nat}(ho:CntOk P.kd P.k P.old P.size P.S c):(hd P).length<=35184372088832:=by
 have h1:=Ym (n:=P.size) (by have:=ho.hsz;omega)
 have h2:(mid P).length<=11*1099511627776+10:=by
  unfold mid;have hl:=ho.len;have hz:=ho.hsz
  split
  ·rename_i h
   obtain⟨g1,g2⟩:=ho.one h;have:=Ym (n:=P.S.getD 0 0) (by have:=(QiW ho.chain 0 (by omega)).2;omega)
   omega
  ·split
   ·have:=QjD ho.chain (by omega)
    have:=Ym (n:=P.S.length) (by omega)
    rw[Lg];omega
   ·have:=Ym (n:=P.old) (by have:=ho.hold;omega)
    omega
 rw[hd,Lt,Lt,Lg];omega
theorem Qln{P:PV}(h:Y7 P):(QD P.D).length<=35184372088832:=by
 have ho:=QK h.1;have hk:=ho.k32;have xA:=ho.k1;obtain⟨b,hb⟩ : ∃b:Nat,P.k=b:=⟨P.k.toNat,by omega⟩
 have e:(QD P.D).length=P.D.length*b:=QbO (fun d hd=>by have:=h.2 d hd;omega)
 have:=ho.hc;have:P.D.length*b<=1099511627776*32:=Wt this (by omega)
 omega
theorem Qli{P:PV}(h:Y7 P):(enc P).length<=70368744177664:=by
 have h1:=Qno (QK h.1);have h2:=Qln h;rw[Qnh,Lg];omega
end
theorem QeJ(w:World)(s:BA)(hs:s.size<=281474976710656)(h:dec s.data.toList=none) :
  Zr 25 #[.string s] w (.tuple #[noP,.int .i64 140]):=by
 refine(QbH w s hs).mono ?_
 rintro e w' (⟨P,_,_,h1,_⟩|⟨_,h2,h3⟩)
 ·rw[h] at h1;cases h1
 ·exact⟨h2,h3⟩
end Go.Proofs.YtdocjikpcbmcgaaGreatDoor
