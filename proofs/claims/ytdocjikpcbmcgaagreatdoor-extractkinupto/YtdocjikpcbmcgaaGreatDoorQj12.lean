/- Own work. -/
import Derived.Test.YtdocjikpcbmcgaaGreatDoorQj11
set_option maxRecDepth 100000
set_option maxHeartbeats 4000000
namespace Go.Proofs.YtdocjikpcbmcgaaGreatDoor
open Go.RowKit
attribute [local go_sem ↓] Go.wp_at_zero Go.wp_at_succ
theorem QcW{w:World}{p:Nat}{s:BA}(hr:Rdr w p s 0)(hs:s.size<=9223372036854775807)(h:s.data.toList=[]) :
  Calls Tryz.prog 102 #[.pointer (some ⟨p,0,none⟩)] w fun e w'=>e=pnc∧Ch p w w':=by
 refine(Qb9 w p s hr hs).mono ?_
 rintro e w' (⟨n,s',g1,_⟩|⟨_,g2,g3⟩)
 ·rw[h] at g1;cases g1
 ·exact⟨g2,g3⟩
theorem QcX{w:World}{p:Nat}{s:BA}{b:UInt8}{r:List UInt8}(hr:Rdr w p s 0)(hs:s.size<=9223372036854775807)(h:s.data.toList=b::r) :
  Calls Tryz.prog 102 #[.pointer (some ⟨p,0,none⟩)] w fun e w' => ∃s',s'.data.toList=r∧e = .returned (.int .i64 (b.toNat:Int))∧Rdr w' p s' 0∧Ch p w w'∧s'.size<=s.size:=by
 refine(Qb9 w p s hr hs).mono ?_
 rintro e w' (⟨n',s',g1,g2⟩|⟨g1,_⟩)
 ·rw[h] at g1;cases g1;exact⟨s',rfl,g2⟩
 ·rw[h] at g1;cases g1
section
variable {w W:World} {s:Nat} {a b c d e f:Value}
theorem Six.set0(h:Six w s a b c d e f)(x:Value):Six (w.setCell ⟨s,0,none⟩ x) s x b c d e f:=heap_setCell_same w s 0 _ _ x h
theorem Six.set1(h:Six w s a b c d e f)(x:Value):Six (w.setCell ⟨s,1,none⟩ x) s a x c d e f:=heap_setCell_same w s 1 _ _ x h
theorem Six.set2(h:Six w s a b c d e f)(x:Value):Six (w.setCell ⟨s,2,none⟩ x) s a b x d e f:=heap_setCell_same w s 2 _ _ x h
theorem Six.set3(h:Six w s a b c d e f)(x:Value):Six (w.setCell ⟨s,3,none⟩ x) s a b c x e f:=heap_setCell_same w s 3 _ _ x h
theorem Six.set4(h:Six w s a b c d e f)(x:Value):Six (w.setCell ⟨s,4,none⟩ x) s a b c d x f:=heap_setCell_same w s 4 _ _ x h
theorem Six.set5(h:Six w s a b c d e f)(x:Value):Six (w.setCell ⟨s,5,none⟩ x) s a b c d e x:=heap_setCell_same w s 5 _ _ x h
end
structure PS(w:World)(p:Nat)(wr:World)(s:BA)(a b c d e f:Value):Prop where
 rd:Rdr wr p s 0
 ch:Ch p w wr
 res:Six wr w.heap.size (.int .i64 0) (.int .i64 0) (.int .u64 0) (.int .u64 0) (.slice none 0 0) (.slice none 0 0)
 six:Six wr (w.heap.size+1) a b c d e f
section
variable {w wr w1:World} {p:Nat} {s s':BA} {a b c d e f:Value}
theorem PS.read(h:PS w p wr s a b c d e f)(hp:p<w.heap.size)(hr:Rdr w1 p s' 0)(hc:Ch p wr w1):PS w p w1 s' a b c d e f :=
 ⟨hr,h.ch.trans hc,h.res.same (hc.block _ h.res.lt (by omega)),h.six.same (hc.block _ h.six.lt (by omega))⟩
theorem PS.more(h:PS w p wr s a b c d e f)(hp:p<w.heap.size)(hb:Zb wr w1):PS w p w1 s a b c d e f :=
 ⟨h.rd.next hb h.rd.lt,h.ch.low (hb.mono h.ch.below.size) hp,h.res.next hb,h.six.next hb⟩
theorem PS.set(h:PS w p wr s a b c d e f)(hp:p<w.heap.size)(i:Nat)(v:Value){a' b' c' d' e' f':Value}(h6:Six (wr.setCell ⟨w.heap.size+1,i,none⟩ v) (w.heap.size+1) a' b' c' d' e' f'):PS w p (wr.setCell ⟨w.heap.size+1,i,none⟩ v) s a' b' c' d' e' f':=by
 have hb:Below (w.heap.size+1) wr (wr.setCell ⟨w.heap.size+1,i,none⟩ v):=(Below.refl _ _).setCell (p:=⟨w.heap.size+1,i,none⟩) (Lb _) v;exact⟨h.rd.next hb (by omega),h.ch.low (hb.mono (by omega)) hp,h.res.same (hb.block _ (by omega)),h6⟩
end
theorem Qjp(w:World)(p:Nat)(s:BA)(hr:Rdr w p s 0)(o:Obj)(ho:o = .cells #[.int .i64 0,.int .i64 0,.int .u64 0,.int .u64 0,.slice none 0 0,.slice none 0 0] 55) :
  PS w p ((w.alloc o).alloc o) s (.int .i64 0) (.int .i64 0) (.int .u64 0) (.int .u64 0) (.slice none 0 0) (.slice none 0 0):=by
 subst ho;have hb:=bal (bal (Below.refl w.heap.size w) (.cells #[.int .i64 0,.int .i64 0,.int .u64 0,.int .u64 0,.slice none 0 0,.slice none 0 0] 55)) (.cells #[.int .i64 0,.int .i64 0,.int .u64 0,.int .u64 0,.slice none 0 0,.slice none 0 0] 55);refine⟨hr.next hb hr.lt,(Ch.refl p w).low hb hr.lt,(QV w _ _ _ _ _ _).next (bal (Below.refl _ _) _),?_⟩
 have:=QV (w.alloc (.cells #[.int .i64 0,.int .i64 0,.int .u64 0,.int .u64 0,.slice none 0 0,.slice none 0 0] 55)) (.int .i64 0) (.int .i64 0) (.int .u64 0) (.int .u64 0) (.slice none 0 0) (.slice none 0 0)
 rwa [Lp] at this
theorem Qjc(w:World)(i:Nat):Cv.Own (w.alloc (.cells #[.int .u64 (i:Int)] 28)) w.heap.size (.slice (some ⟨w.heap.size,0,none⟩) 1 1) [i] :=
 ⟨rfl,.inr ⟨w.heap.size,1,_,rfl,Lb _,heap_alloc_new w _,Lb _,by decide,rfl,rfl⟩⟩
theorem UC{w:World}{B:Nat}{v:Value}{l:List Nat}(h:Cv.Own w B v l) : ∃ao b c,v = .slice ao l.length c∧RdU w ao b 0 l.length l∧(ao=none->c=0):=by
 rcases h.2 with ⟨rfl,h0⟩|⟨g,cap,cur,rfl,hg,_⟩
 ·have:l=[]:=LG.1 h0;subst this;exact⟨none,0,0,rfl,⟨rfl,fun h=>absurd h (NB 0),fun j v h=>by cases h⟩,fun _=>rfl⟩
 ·have:=QkU (l':=[]) (by rw[L6];exact h)
  exact⟨_,g,cap,rfl,this,fun h=>by cases h⟩
def decM(k0 k1 size:Nat)(l:List UInt8):Option PV:=match UU k0 size l with|none=>none|some (old,S,l2)=>OS k0 k1 size old S l2
theorem Qkg{k0 k1:Nat}{l:List UInt8}(h:nmb l=none):decA k0 k1 l=none:=by rw[decA,h]
theorem Qij{k0 k1 size:Nat}{l r:List UInt8}(h:nmb l=some (size,r)):decA k0 k1 l=decM k0 k1 size r:=by rw[decA,h];rfl
theorem Qdf{k0 k1 size:Nat}{l:List UInt8}(h:UU k0 size l=none):decM k0 k1 size l=none:=by rw[decM,h]
theorem JF{k0 k1 size old:Nat}{S:List Nat}{l r:List UInt8}(h:UU k0 size l=some (old,S,r)):decM k0 k1 size l=OS k0 k1 size old S r:=by rw[decM,h]
theorem Qik{k0 k1 size:Nat}{l:List UInt8}(h : ∀o S r,UU k0 size l=some (o,S,r)->2^40<size):decM k0 k1 size l=none:=by
 cases hm:UU k0 size l with
 | none=>exact Qdf hm
 | some a =>
  obtain⟨o,S,r⟩:=a;rw[JF hm,OS,Qdd (by have:=h o S r hm;omega)]
theorem QaY{k0 k1 size old:Nat}{S:List Nat}{l:List UInt8}(h:cnt k0 k1 old size S=none):OS k0 k1 size old S l=none:=by rw[OS,h]
theorem Qbw{k0 k1 size old c:Nat}{S:List Nat}{l:List UInt8}(h:cnt k0 k1 old size S=some c)(hl : ¬c*k1=l.length):OS k0 k1 size old S l=none:=by rw[OS,h];simp only;rw[if_neg hl]
theorem Qbx{k0 k1 size old c:Nat}{S:List Nat}{l:List UInt8}(h:cnt k0 k1 old size S=some c)(hl:c*k1=l.length):OS k0 k1 size old S l=some ⟨k0,k1,old,size,S,YB c k1 l⟩:=by rw[OS,h];simp only;rw[if_pos hl]
theorem Qeo{k0 size:Nat}{l:List UInt8}(h:k0=1):UU k0 size l=match nmb l with|none=>none|some (i,r)=>some (0,[i],r):=by rw[UU,if_pos h];cases nmb l <;> rfl
theorem QcB{k0 size:Nat}{l:List UInt8}(h:k0=2):UU k0 size l=UU 2 size l:=by rw[h]
theorem QbT{k0 size:Nat}{l:List UInt8}(h:k0=3):UU k0 size l=match nmb l with|none=>none|some (o,r)=>some (o,[],r):=by rw[UU,if_neg (by omega),if_neg (by omega),if_pos h];cases nmb l <;> rfl
theorem Qfs{k0 size:Nat}{l:List UInt8}(h1:k0≠1)(h2:k0≠2)(h3:k0≠3):UU k0 size l=some (0,[],l):=by rw[UU,if_neg h1,if_neg h2,if_neg h3]
theorem YU{w:World}{B e size n q:Nat}{v:Value}{xs:List Value}{a b c d x y:Value}(h:w.ownsRow B e size v n xs)(h6:Six w q a b c d x y)(he:e≠55) : ∀g,v.ownBlock=some g->g≠q:=by
 rintro g hg rfl
 rcases h.2 with ⟨rfl,_⟩|⟨g',cap,cur,rfl,_,hh,_⟩
 ·cases hg
 ·cases hg;rw[Six,hh] at h6;injection h6 with h6
  injection h6 with _ e2 _
  exact he e2
structure TlC(w:World)(p:Nat)(s0:BA)(k0 k1 size:Nat)(W:World)(s:BA)(old:Nat)(SL:List Nat)(ao:OA)(bb cp:Nat):Prop where
 ps:PS w p W s (.int .i64 (k0:Int)) (.int .i64 (k1:Int)) (.int .u64 (old:Int)) (.int .u64 (size:Int)) (.slice ao SL.length cp) (.slice none 0 0)
 own:Cv.Own W w.heap.size (.slice ao SL.length cp) SL
 rd:RdU W ao bb 0 SL.length SL
 dc:dec s0.data.toList=OS k0 k1 size old SL s.data.toList
 len:size<=2^40->SL.length<=17592186044416
 old64:old<18446744073709551616
 sz:s.size<=281474976710656
theorem TlC.more{w:World}{p:Nat}{s0:BA}{k0 k1 size:Nat}{W W':World}{s:BA}{old:Nat}{SL:List Nat}{ao:OA}{bb cp:Nat}(h:TlC w p s0 k0 k1 size W s old SL ao bb cp)(hp:p<w.heap.size)(hb:Zb W W'):TlC w p s0 k0 k1 size W' s old SL ao bb cp :=
 ⟨h.ps.more hp hb,Qj h.own (fun g hg _=>hb.block g (h.own.lt g hg).2),h.rd.next hb,h.dc,h.len,h.old64,h.sz⟩
theorem QjL{w:World}{p:Nat}{s0:BA}{k0 k1 size:Nat}{W:World}{s:BA}{old:Nat}{SL:List Nat}{sv:Value}(ps:PS w p W s (.int .i64 (k0:Int)) (.int .i64 (k1:Int)) (.int .u64 (old:Int)) (.int .u64 (size:Int)) sv (.slice none 0 0))(own:Cv.Own W w.heap.size sv SL)(dc:dec s0.data.toList=OS k0 k1 size old SL s.data.toList)(len:size<=2^40->SL.length<=17592186044416)(old64:old<18446744073709551616)(sz:s.size<=281474976710656) : ∃ao bb cp,TlC w p s0 k0 k1 size W s old SL ao bb cp:=by
 obtain⟨ao,bb,cp,rfl,hr,_⟩:=UC own;exact⟨ao,bb,cp,ps,own,hr,dc,len,old64,sz⟩
theorem JU{wr:World}{B:Nat}{v:Value}{l:List Nat}{q i:Nat}{a b c d e f x:Value}(h:Cv.Own wr B v l)(h6:Six wr q a b c d e f):Cv.Own (wr.setCell ⟨q,i,none⟩ x) B v l :=
 Qj h fun g hg _=>Below.heap_setCell _ _ _ _ (YU h h6 (by decide) g hg)
def PrQ(w:World)(p:Nat)(s:BA)(e:Ending)(w':World):Prop :=
 (∃P sv dv,dec s.data.toList=some P∧e = .returned (pv6 P.kd P.k P.old P.size sv dv)∧Cv.Own w' w.heap.size sv P.S∧Qk w' w.heap.size dv P.D∧Ch p w w') ∨
  (dec s.data.toList=none∧pan e∧Ch p w w')
theorem Y6{w:World}{p:Nat}{s:BA}{e:Ending}{w':World}(h:dec s.data.toList=none)(he:pan e)(hc:Ch p w w'):PrQ w p s e w' := .inr ⟨h,he,hc⟩
theorem Qhv(w:World)(p:Nat)(s:BA)(hr:Rdr w p s 0)(hs:s.size<=281474976710656) :
  Calls Tryz.prog 58 #[.pointer (some ⟨p,0,none⟩)] w (PrQ w p s):=by
 have hp:=hr.lt;have HP:Hid (p<w.heap.size∧s.size<=281474976710656):=⟨hp,hs⟩;have P0:=Qjp w p s hr _ rfl;obtain⟨W0,hW0⟩:=Ze ((w.alloc (.cells #[.int .i64 0,.int .i64 0,.int .u64 0,.int .u64 0,.slice none 0 0,.slice none 0 0] 55)).alloc (.cells #[.int .i64 0,.int .i64 0,.int .u64 0,.int .u64 0,.slice none 0 0,.slice none 0 0] 55));rw[hW0] at P0;have f0:=P0.six.fz;obtain⟨e0,e1,e2,e3,e4,e5⟩:=P0.six.cells;have P1:PS w p (QT W0 (w.heap.size+1) (.int .i64 0) (.int .i64 0) (.int .u64 0) (.int .u64 0) (.slice none 0 0) (.slice none 0 0)) s (.int .i64 0) (.int .i64 0) (.int .u64 0) (.int .u64 0) (.slice none 0 0) (.slice none 0 0):=by
  have C1:=QP W0 (w.heap.size+1) (.int .i64 0) (.int .i64 0) (.int .u64 0) (.int .u64 0) (.slice none 0 0) (.slice none 0 0);have hb:Below (w.heap.size+1) W0 (QT W0 (w.heap.size+1) (.int .i64 0) (.int .i64 0) (.int .u64 0) (.int .u64 0) (.slice none 0 0) (.slice none 0 0)):=C1.below (fun b hb=>by omega)
  exact⟨P0.rd.next hb (by omega),P0.ch.low (hb.mono (by omega)) hp,P0.res.same (C1.block _ (by show ¬_=_;omega)),P0.six.put (.int .i64 0) (.int .i64 0) (.int .u64 0) (.int .u64 0) (.slice none 0 0) (.slice none 0 0)⟩
 clear hr hs hp;obtain⟨W1,hW1⟩:=Ze (QT W0 (w.heap.size+1) (.int .i64 0) (.int .i64 0) (.int .u64 0) (.int .u64 0) (.slice none 0 0) (.slice none 0 0));rw[hW1] at P1;unfold QT at hW1
 go_enter Tryz.func58,Tryz.ntmps58
 go_upto_region 2 with (fail)
 try rw[hW1]
 clear hW1 hW0 P0 f0 e0 e1 e2 e3 e4 e5;have HP1:=Qg P1;clear P1
 rcases hl0:s.data.toList with _|⟨b0,r0⟩
 ·have HN:=QcW HP1.out.rd (by have:=HP.out.2;omega) hl0
  have HE:Hid (∀w',Ch p W1 w'->PrQ w p s pnc w'):=fun w' hc=>Y6 (by rw[hl0];rfl) Ya (HP1.out.ch.trans hc)
  go_wp2_with (go_at_call 102;with_reducible refine HN.mono ?_;rintro x w1 ⟨rfl,hc⟩)
  exact⟨rfl,HE.out _ hc⟩
 have HN:=QcX HP1.out.rd (by have:=HP.out.2;omega) hl0
 go_upto_region 3 with (go_at_call 102;with_reducible refine HN.mono ?_;rintro x w1 ⟨s1,hl1,rfl,q1,q2,q3⟩;(have P2:=HP1.out.read HP.out.1 q1 q2);(have f0:=P2.six.fz);(obtain⟨e0,e1,e2,e3,e4,e5⟩:=P2.six.cells))
 have hs1:s1.size<=281474976710656:=by have:=HP.out.2;omega
 have P3:=P2.set HP.out.1 0 _ (P2.six.set0 (.int .i64 (b0.toNat:Int)));clear q1 q2 q3 HN HP1 f0 e0 e1 e2 e3 e4 e5 P2;obtain⟨W3,hW3⟩:=Ze (w1.setCell ⟨w.heap.size+1,0,none⟩ (.int .i64 (b0.toNat:Int)))
 try rw[hW3]
 rw[hW3] at P3;clear hW3;obtain⟨k0,hk0⟩:=Ze b0.toNat;have hk8:k0<256:=by rw[<-hk0];exact b0.toNat_lt
 rw[hk0] at P3 ⊢;have HP3:=Qg P3;clear P3
 rcases hl2:s1.data.toList with _|⟨b1,r1⟩
 ·have HN:=QcW HP3.out.rd (by omega) hl2
  have HE:Hid (∀w',Ch p W3 w'->PrQ w p s pnc w'):=fun w' hc=>Y6 (by rw[hl0,<-hl1,hl2];rfl) Ya (HP3.out.ch.trans hc)
  go_wp2_with (go_at_call 102;with_reducible refine HN.mono ?_;rintro x w1 ⟨rfl,hc⟩)
  exact⟨rfl,HE.out _ hc⟩
 have HN:=QcX HP3.out.rd (by omega) hl2
 go_upto_region 4 with (go_at_call 102;with_reducible refine HN.mono ?_;rintro x w4 ⟨s2,hl3,rfl,q1,q2,q3⟩;(have P4:=HP3.out.read HP.out.1 q1 q2);(have f0:=P4.six.fz);(obtain⟨e0,e1,e2,e3,e4,e5⟩:=P4.six.cells))
 have hs2:s2.size<=281474976710656:=by omega
 have P5:=P4.set HP.out.1 1 _ (P4.six.set1 (.int .i64 (b1.toNat:Int)));clear q1 q2 q3 HN HP3 f0 e0 e1 e2 e3 e4 e5 P4 hs1;obtain⟨W5,hW5⟩:=Ze (w4.setCell ⟨w.heap.size+1,1,none⟩ (.int .i64 (b1.toNat:Int)))
 try rw[hW5]
 rw[hW5] at P5;clear hW5;obtain⟨k1,hk1⟩:=Ze b1.toNat;have hk9:k1<256:=by rw[<-hk1];exact b1.toNat_lt
 have HD:Hid (dec s.data.toList=decA k0 k1 s2.data.toList):=by rw[hl0,<-hl1,hl2,hl3,<-hk0,<-hk1];rfl
 rw[hk1] at P5 ⊢;have HP5:=Qg P5;clear P5 hl0 hl1 hl2 hl3 hk0 hk1;clear b0 b1 r0 r1 s1 w1 w4 W0 W1 W3
 rcases hn:nmb s2.data.toList with _|⟨size,l1⟩
 ·have HN:=U8 HP5.out.rd (by omega) hn
  have HE:Hid (∀w',Ch p W5 w'->PrQ w p s pnc w'):=fun w' hc=>Y6 (by rw[HD.out,Qkg hn]) Ya (HP5.out.ch.trans hc)
  go_wp2_with (go_at_call 103;with_reducible refine HN.mono ?_;rintro x w1 ⟨rfl,hc⟩)
  exact⟨rfl,HE.out _ hc⟩
 have HN:=U9 HP5.out.rd (by omega) hn
 have hz64:=Qdx hn;rw[Qij hn] at HD;clear hn
 go_upto_region 5 with (go_at_call 103;with_reducible refine HN.mono ?_;rintro x w4 ⟨s3,rfl,rfl,q1,q2,q3⟩;(have P6:=HP5.out.read HP.out.1 q1 q2);(have f0:=P6.six.fz);(obtain⟨e0,e1,e2,e3,e4,e5⟩:=P6.six.cells))
 have hs3:s3.size<=281474976710656:=by omega
 have P7:=P6.set HP.out.1 3 _ (P6.six.set3 (.int .u64 (size:Int)));clear q1 q2 q3 HN HP5 f0 e0 e1 e2 e3 e4 e5 P6 hs2;obtain⟨W7,hW7⟩:=Ze (w4.setCell ⟨w.heap.size+1,3,none⟩ (.int .u64 (size:Int)))
 try rw[hW7]
 rw[hW7] at P7;clear hW7;clear w4 W5 s2;have HP7:=Qg P7;have HZ:Hid (k0<256∧k1<256∧size<18446744073709551616∧s3.size<=281474976710656):=⟨hk8,hk9,hz64,hs3⟩;clear P7 hk8 hk9 hz64 hs3
 by_cases h1:k0=1
 ·have hb1:((k0:Int) == 1)=true:=beq_iff_eq.2 (by omega)
  have HK:Hid (k0=1):=h1;clear h1;obtain⟨e0,e1,e2,e3,e4,e5⟩:=HP7.out.six.cells
  rcases hn:nmb s3.data.toList with _|⟨i,l2⟩
  ·have HN:=U8 HP7.out.rd (by have:=HZ.out;omega) hn
   have HE:Hid (∀w',Ch p W7 w'->PrQ w p s pnc w'):=fun w' hc=>Y6 (by rw[HD.out,Qdf (by rw[Qeo HK.out,hn])]) Ya (HP7.out.ch.trans hc)
   go_wp2_with (go_at_call 103;with_reducible refine HN.mono ?_;rintro x w1 ⟨rfl,hc⟩)
   exact⟨rfl,HE.out _ hc⟩
  have HN:=U9 HP7.out.rd (by have:=HZ.out;omega) hn
  rw[JF (by rw[Qeo HK.out,hn])] at HD
  clear hn
  go_upto_region 12 with (go_at_call 103;with_reducible refine HN.mono ?_;rintro x w4 ⟨s4,rfl,rfl,q1,q2,q3⟩;(have P8:=(HP7.out.read HP.out.1 q1 q2).more HP.out.1 (bal (Below.refl _ _) (.cells #[.int .u64 (i:Int)] 28)));(have f0:=P8.six.fz);(obtain⟨e0,e1,e2,e3,e4,e5⟩:=P8.six.cells))
  have P9:=P8.set HP.out.1 4 _ (P8.six.set4 (.slice (some ⟨w4.heap.size,0,none⟩) 1 1));have O9:Cv.Own ((w4.alloc (.cells #[.int .u64 (i:Int)] 28)).setCell ⟨w.heap.size+1,4,none⟩ (.slice (some ⟨w4.heap.size,0,none⟩) 1 1)) w.heap.size (.slice (some ⟨w4.heap.size,0,none⟩) 1 1) [i]:=JU ((Qjc w4 i).mono (Lm HP7.out.ch.below.size q2.below.size)) P8.six;have T9:=QjL (old:=0) P9 O9 HD.out (fun _=>by simp) (by decide) (by have:=HZ.out;omega)
  clear P8 P9 O9 q1 q2 q3 HN HP7 HD f0 e0 e1 e2 e3 e4 e5;obtain⟨W9,hW9⟩:=Ze ((w4.alloc (.cells #[.int .u64 (i:Int)] 28)).setCell ⟨w.heap.size+1,4,none⟩ (.slice (some ⟨w4.heap.size,0,none⟩) 1 1))
  try rw[hW9]
  rw[hW9] at T9;clear hW9;obtain⟨ao,bb,cp,T9⟩:=T9;generalize [i]=SL at T9;obtain⟨old,hold⟩ : ∃old:Nat,0=old:=⟨_,rfl⟩;rw[hold] at T9;clear hold;have HT:=Qg T9;have HC:=Ut W9 k0 k1 old size ao bb 0 cp SL (.slice none 0 0) T9.old64 HZ.out.2.2.1 T9.rd T9.len;obtain⟨e0,e1,e2,e3,e4,e5⟩:=T9.ps.six.cells;clear T9
  rcases hc:cnt k0 k1 old size SL with _|c
  ·rw[hc] at HC;simp only[cV] at HC;have HE:Hid (∀w',Ch p w w'->PrQ w p s pnc w'):=fun w' hc'=>Y6 (by rw[HT.out.dc,QaY hc]) Ya hc'
   clear hc
   go_wp2_with (first
    | (go_at_call 105;with_reducible refine HC.mono ?_;rintro x w1 ⟨rfl,hb⟩;(have T10:=HT.out.more HP.out.1 hb))
    | (go_at_call 106;refine(Ub _ _ rfl).mono ?_;rintro x w3 ⟨rfl,rfl⟩))
   exact⟨rfl,HE.out _ T10.ps.ch⟩
  rw[hc] at HC;simp only[cV] at HC;have HK2:Hid (cnt k0 k1 old size SL=some c):=hc;clear hc
  go_upto_region 14 with (first
   | (go_at_call 105;with_reducible refine HC.mono ?_;rintro x w1 ⟨rfl,hb⟩;(have T10:=HT.out.more HP.out.1 hb);(have HT10:=Qg T10);clear T10 hb)
   | (go_at_call 106;refine(YD _ _ rfl).mono ?_;rintro x w3 ⟨rfl,rfl⟩))
  clear HT HC e0 e1 e2 e3 e4 e5;obtain⟨e0,e1,e2,e3,e4,e5⟩:=HT10.out.ps.six.cells
  by_cases hl:c*k1=s4.data.toList.length
  ·have HG:=Oy w3 p c k1 s4 HT10.out.ps.rd HT10.out.sz (QL HK2.out).hc (by have:=(QL HK2.out).k32;omega) hl
   have HL:Hid (c*k1=s4.data.toList.length):=hl;clear hl
   go_upto_region 15 with (go_at_call 107;with_reducible refine HG.mono ?_;rintro x w5 ⟨g,rfl,o5,c5,t5,r5⟩;(have P11:=HT10.out.ps.read HP.out.1 r5 c5);(have f0:=P11.six.fz);(obtain⟨e0,e1,e2,e3,e4,e5⟩:=P11.six.cells))
   have O11:Cv.Own w5 w.heap.size (.slice ao SL.length cp) SL:=Qj HT10.out.own fun b hb _=>c5.block b (HT10.out.own.lt b hb).2 (by have:=(HT10.out.own.lt b hb).1;have:=HP.out.1;omega)
   have O12:=JU (i:=5) (x := .slice (some ⟨g,0,none⟩) c c) O11 P11.six;have D11:Qk w5 w.heap.size (.slice (some ⟨g,0,none⟩) c c) (YB c k1 s4.data.toList):=o5.mono HT10.out.ps.ch.below.size;have D12:Qk (w5.setCell ⟨w.heap.size+1,5,none⟩ (.slice (some ⟨g,0,none⟩) c c)) w.heap.size (.slice (some ⟨g,0,none⟩) c c) (YB c k1 s4.data.toList):=Qj D11 fun b hb _=>Below.heap_setCell _ _ _ _ (YU D11 P11.six (by decide) b hb)
   have P12:=P11.set HP.out.1 5 _ (P11.six.set5 (.slice (some ⟨g,0,none⟩) c c));have HD12:Hid (dec s.data.toList=some ⟨k0,k1,old,size,SL,YB c k1 s4.data.toList⟩):=HT10.out.dc.trans (Qbx HK2.out HL.out);clear HT10 HG o5 c5 r5 P11 O11 D11 f0 e0 e1 e2 e3 e4 e5 HL HK2;obtain⟨W12,hW12⟩:=Ze (w5.setCell ⟨w.heap.size+1,5,none⟩ (.slice (some ⟨g,0,none⟩) c c))
   try rw[hW12]
   rw[hW12] at O12 D12 P12;clear hW12;obtain⟨e0,e1,e2,e3,e4,e5⟩:=P12.six.cells;obtain⟨m0,m1,m2,m3,m4,m5⟩:=P12.res.cells;have f0:=P12.res.fz;have h11:=P12.res.put (.int .i64 (k0:Int)) (.int .i64 (k1:Int)) (.int .u64 (old:Int)) (.int .u64 (size:Int)) (.slice ao SL.length cp) (.slice (some ⟨g,0,none⟩) c c);have hc11:=QP W12 w.heap.size (.int .i64 (k0:Int)) (.int .i64 (k1:Int)) (.int .u64 (old:Int)) (.int .u64 (size:Int)) (.slice ao SL.length cp) (.slice (some ⟨g,0,none⟩) c c);have HF:Hid (Cv.Own (QT W12 w.heap.size (.int .i64 (k0:Int)) (.int .i64 (k1:Int)) (.int .u64 (old:Int)) (.int .u64 (size:Int)) (.slice ao SL.length cp) (.slice (some ⟨g,0,none⟩) c c)) w.heap.size (.slice ao SL.length cp) SL∧Qk (QT W12 w.heap.size (.int .i64 (k0:Int)) (.int .i64 (k1:Int)) (.int .u64 (old:Int)) (.int .u64 (size:Int)) (.slice ao SL.length cp) (.slice (some ⟨g,0,none⟩) c c)) w.heap.size (.slice (some ⟨g,0,none⟩) c c) (YB c k1 s4.data.toList)∧Ch p w (QT W12 w.heap.size (.int .i64 (k0:Int)) (.int .i64 (k1:Int)) (.int .u64 (old:Int)) (.int .u64 (size:Int)) (.slice ao SL.length cp) (.slice (some ⟨g,0,none⟩) c c))):=by
    refine⟨Qj O12 fun b hb _=>hc11.block b (YU O12 P12.res (by decide) b hb),Qj D12 fun b hb _=>hc11.block b (YU D12 P12.res (by decide) b hb),P12.ch.low (hc11.below (by rintro b rfl;exact Lb _)) HP.out.1⟩
   unfold QT at h11 HF;clear hc11 O12 D12 P12;go_wp2;obtain⟨s0,s1,s2,s3,s4',s5⟩:=h11.cells;refine bodyPost_ret (v:=pv6 k0 k1 old size (.slice ao SL.length cp) (.slice (some ⟨g,0,none⟩) c c)) (by simp[results,Tryz.results58,go_sem,s0,s1,s2,s3,s4',s5]) rfl ?_
   exact .inl ⟨_,_,_,HD12.out,rfl,HF.out.1,HF.out.2.1,HF.out.2.2⟩
  ·have HG:=Ox w3 p c k1 s4 HT10.out.ps.rd HT10.out.sz (QL HK2.out).hc (by have:=(QL HK2.out).k32;omega) hl
   have HE:Hid (PrQ w p s pnc w3):=Y6 (by rw[HT10.out.dc,Qbw HK2.out hl]) Ya HT10.out.ps.ch
   go_wp2_with (go_at_call 107;with_reducible refine HG.mono ?_;rintro x w5 ⟨rfl,rfl⟩)
   exact⟨rfl,HE.out⟩
 by_cases h2:k0=2
 ·have hb1:((k0:Int) == 1)=false:=beq_false_of_ne (by omega)
  have hb2:((k0:Int) == 2)=true:=beq_iff_eq.2 (by omega)
  have HK:Hid (k0=2):=h2;clear h1 h2;obtain⟨e0,e1,e2,e3,e4,e5⟩:=HP7.out.six.cells;have HN:=Qle W7 p size s3 HP7.out.rd HZ.out.2.2.2 HZ.out.2.2.1;have HE:Hid (∀w' e,Ch p W7 w'->(∀o S r,UU 2 size s3.data.toList=some (o,S,r)->2^40<size)->pan e->PrQ w p s e w'):=fun w' e hc hm he=>Y6 (by rw[HD.out,Qik (by rw[QcB HK.out];exact hm)]) he (HP7.out.ch.trans hc)
  go_upto_region 12 with (go_at_call 104;((with_reducible refine HN.mono ?_);rintro x w4 hq;rcases hq with ⟨SL,s4,g,c2,hm,rfl,o4,q1,q2,q3⟩|⟨hm,⟨u,v,rfl⟩,q2⟩;rotate_left;(exact⟨rfl,HE.out _ _ q2 hm ⟨u,v,rfl⟩⟩);(have P8:=HP7.out.read HP.out.1 q1 q2);(have f0:=P8.six.fz);(obtain⟨e0,e1,e2,e3,e4,e5⟩:=P8.six.cells)))
  rw[JF (by rw[QcB HK.out];exact hm)] at HD
  have P9:=P8.set HP.out.1 4 _ (P8.six.set4 (.slice (some ⟨g,0,none⟩) SL.length c2));have O9:Cv.Own (w4.setCell ⟨w.heap.size+1,4,none⟩ (.slice (some ⟨g,0,none⟩) SL.length c2)) w.heap.size (.slice (some ⟨g,0,none⟩) SL.length c2) SL:=JU (o4.mono HP7.out.ch.below.size) P8.six;have hSL:size<=2^40->SL.length<=17592186044416:=fun hz=>by
   rw[U6] at hm
   split at hm
   ·cases hm
   ·split at hm
    ·split at hm
     ·cases hm
     ·rename_i hs
      cases hm;obtain⟨z1,z2,z3⟩:=QaD _ _ _ _ _ (Lf _) hs;have:=J5 z3;omega
    ·cases hm
  have T9:=QjL (old:=0) P9 O9 HD.out hSL (by decide) (by have:=HZ.out;omega)
  clear P8 P9 O9 o4 hm hSL q1 q2 q3 HN HP7 HD HE f0 e0 e1 e2 e3 e4 e5;obtain⟨W9,hW9⟩:=Ze (w4.setCell ⟨w.heap.size+1,4,none⟩ (.slice (some ⟨g,0,none⟩) SL.length c2))
  try rw[hW9]
  rw[hW9] at T9;clear hW9;obtain⟨ao,bb,cp,T9⟩:=T9;obtain⟨old,hold⟩ : ∃old:Nat,0=old:=⟨_,rfl⟩;rw[hold] at T9;clear hold;have HT:=Qg T9;have HC:=Ut W9 k0 k1 old size ao bb 0 cp SL (.slice none 0 0) T9.old64 HZ.out.2.2.1 T9.rd T9.len;obtain⟨e0,e1,e2,e3,e4,e5⟩:=T9.ps.six.cells;clear T9
  rcases hc:cnt k0 k1 old size SL with _|c
  ·rw[hc] at HC;simp only[cV] at HC;have HE:Hid (∀w',Ch p w w'->PrQ w p s pnc w'):=fun w' hc'=>Y6 (by rw[HT.out.dc,QaY hc]) Ya hc'
   clear hc
   go_wp2_with (first
    | (go_at_call 105;with_reducible refine HC.mono ?_;rintro x w1 ⟨rfl,hb⟩;(have T10:=HT.out.more HP.out.1 hb))
    | (go_at_call 106;refine(Ub _ _ rfl).mono ?_;rintro x w3 ⟨rfl,rfl⟩))
   exact⟨rfl,HE.out _ T10.ps.ch⟩
  rw[hc] at HC;simp only[cV] at HC;have HK2:Hid (cnt k0 k1 old size SL=some c):=hc;clear hc
  go_upto_region 14 with (first
   | (go_at_call 105;with_reducible refine HC.mono ?_;rintro x w1 ⟨rfl,hb⟩;(have T10:=HT.out.more HP.out.1 hb);(have HT10:=Qg T10);clear T10 hb)
   | (go_at_call 106;refine(YD _ _ rfl).mono ?_;rintro x w3 ⟨rfl,rfl⟩))
  clear HT HC e0 e1 e2 e3 e4 e5;obtain⟨e0,e1,e2,e3,e4,e5⟩:=HT10.out.ps.six.cells
  by_cases hl:c*k1=s4.data.toList.length
  ·have HG:=Oy w3 p c k1 s4 HT10.out.ps.rd HT10.out.sz (QL HK2.out).hc (by have:=(QL HK2.out).k32;omega) hl
   have HL:Hid (c*k1=s4.data.toList.length):=hl;clear hl
   go_upto_region 15 with (go_at_call 107;with_reducible refine HG.mono ?_;rintro x w5 ⟨g,rfl,o5,c5,t5,r5⟩;(have P11:=HT10.out.ps.read HP.out.1 r5 c5);(have f0:=P11.six.fz);(obtain⟨e0,e1,e2,e3,e4,e5⟩:=P11.six.cells))
   have O11:Cv.Own w5 w.heap.size (.slice ao SL.length cp) SL:=Qj HT10.out.own fun b hb _=>c5.block b (HT10.out.own.lt b hb).2 (by have:=(HT10.out.own.lt b hb).1;have:=HP.out.1;omega)
   have O12:=JU (i:=5) (x := .slice (some ⟨g,0,none⟩) c c) O11 P11.six;have D11:Qk w5 w.heap.size (.slice (some ⟨g,0,none⟩) c c) (YB c k1 s4.data.toList):=o5.mono HT10.out.ps.ch.below.size;have D12:Qk (w5.setCell ⟨w.heap.size+1,5,none⟩ (.slice (some ⟨g,0,none⟩) c c)) w.heap.size (.slice (some ⟨g,0,none⟩) c c) (YB c k1 s4.data.toList):=Qj D11 fun b hb _=>Below.heap_setCell _ _ _ _ (YU D11 P11.six (by decide) b hb)
   have P12:=P11.set HP.out.1 5 _ (P11.six.set5 (.slice (some ⟨g,0,none⟩) c c));have HD12:Hid (dec s.data.toList=some ⟨k0,k1,old,size,SL,YB c k1 s4.data.toList⟩):=HT10.out.dc.trans (Qbx HK2.out HL.out);clear HT10 HG o5 c5 r5 P11 O11 D11 f0 e0 e1 e2 e3 e4 e5 HL HK2;obtain⟨W12,hW12⟩:=Ze (w5.setCell ⟨w.heap.size+1,5,none⟩ (.slice (some ⟨g,0,none⟩) c c))
   try rw[hW12]
   rw[hW12] at O12 D12 P12;clear hW12;obtain⟨e0,e1,e2,e3,e4,e5⟩:=P12.six.cells;obtain⟨m0,m1,m2,m3,m4,m5⟩:=P12.res.cells;have f0:=P12.res.fz;have h11:=P12.res.put (.int .i64 (k0:Int)) (.int .i64 (k1:Int)) (.int .u64 (old:Int)) (.int .u64 (size:Int)) (.slice ao SL.length cp) (.slice (some ⟨g,0,none⟩) c c);have hc11:=QP W12 w.heap.size (.int .i64 (k0:Int)) (.int .i64 (k1:Int)) (.int .u64 (old:Int)) (.int .u64 (size:Int)) (.slice ao SL.length cp) (.slice (some ⟨g,0,none⟩) c c);have HF:Hid (Cv.Own (QT W12 w.heap.size (.int .i64 (k0:Int)) (.int .i64 (k1:Int)) (.int .u64 (old:Int)) (.int .u64 (size:Int)) (.slice ao SL.length cp) (.slice (some ⟨g,0,none⟩) c c)) w.heap.size (.slice ao SL.length cp) SL∧Qk (QT W12 w.heap.size (.int .i64 (k0:Int)) (.int .i64 (k1:Int)) (.int .u64 (old:Int)) (.int .u64 (size:Int)) (.slice ao SL.length cp) (.slice (some ⟨g,0,none⟩) c c)) w.heap.size (.slice (some ⟨g,0,none⟩) c c) (YB c k1 s4.data.toList)∧Ch p w (QT W12 w.heap.size (.int .i64 (k0:Int)) (.int .i64 (k1:Int)) (.int .u64 (old:Int)) (.int .u64 (size:Int)) (.slice ao SL.length cp) (.slice (some ⟨g,0,none⟩) c c))):=by
    refine⟨Qj O12 fun b hb _=>hc11.block b (YU O12 P12.res (by decide) b hb),Qj D12 fun b hb _=>hc11.block b (YU D12 P12.res (by decide) b hb),P12.ch.low (hc11.below (by rintro b rfl;exact Lb _)) HP.out.1⟩
   unfold QT at h11 HF;clear hc11 O12 D12 P12;go_wp2;obtain⟨s0,s1,s2,s3,s4',s5⟩:=h11.cells;refine bodyPost_ret (v:=pv6 k0 k1 old size (.slice ao SL.length cp) (.slice (some ⟨g,0,none⟩) c c)) (by simp[results,Tryz.results58,go_sem,s0,s1,s2,s3,s4',s5]) rfl ?_
   exact .inl ⟨_,_,_,HD12.out,rfl,HF.out.1,HF.out.2.1,HF.out.2.2⟩
  ·have HG:=Ox w3 p c k1 s4 HT10.out.ps.rd HT10.out.sz (QL HK2.out).hc (by have:=(QL HK2.out).k32;omega) hl
   have HE:Hid (PrQ w p s pnc w3):=Y6 (by rw[HT10.out.dc,Qbw HK2.out hl]) Ya HT10.out.ps.ch
   go_wp2_with (go_at_call 107;with_reducible refine HG.mono ?_;rintro x w5 ⟨rfl,rfl⟩)
   exact⟨rfl,HE.out⟩
 by_cases h3:k0=3
 ·have hb1:((k0:Int) == 1)=false:=beq_false_of_ne (by omega)
  have hb2:((k0:Int) == 2)=false:=beq_false_of_ne (by omega)
  have hb3:((k0:Int) == 3)=true:=beq_iff_eq.2 (by omega)
  have HK:Hid (k0=3):=h3;clear h1 h2 h3;obtain⟨e0,e1,e2,e3,e4,e5⟩:=HP7.out.six.cells
  rcases hn:nmb s3.data.toList with _|⟨old,l2⟩
  ·have HN:=U8 HP7.out.rd (by have:=HZ.out;omega) hn
   have HE:Hid (∀w',Ch p W7 w'->PrQ w p s pnc w'):=fun w' hc=>Y6 (by rw[HD.out,Qdf (by rw[QbT HK.out,hn])]) Ya (HP7.out.ch.trans hc)
   go_wp2_with (go_at_call 103;with_reducible refine HN.mono ?_;rintro x w1 ⟨rfl,hc⟩)
   exact⟨rfl,HE.out _ hc⟩
  have HN:=U9 HP7.out.rd (by have:=HZ.out;omega) hn
  have ho64:=Qdx hn;rw[JF (by rw[QbT HK.out,hn])] at HD
  clear hn
  go_upto_region 12 with (go_at_call 103;with_reducible refine HN.mono ?_;rintro x w4 ⟨s4,rfl,rfl,q1,q2,q3⟩;(have P8:=HP7.out.read HP.out.1 q1 q2);(have f0:=P8.six.fz);(obtain⟨e0,e1,e2,e3,e4,e5⟩:=P8.six.cells))
  have P9:=P8.set HP.out.1 2 _ (P8.six.set2 (.int .u64 (old:Int)));have T9:=QjL P9 (Lz _ _ _ _) HD.out (fun _=>by simp) ho64 (by have:=HZ.out;omega)
  clear P8 P9 q1 q2 q3 HN HP7 HD f0 e0 e1 e2 e3 e4 e5 ho64;obtain⟨W9,hW9⟩:=Ze (w4.setCell ⟨w.heap.size+1,2,none⟩ (.int .u64 (old:Int)))
  try rw[hW9]
  rw[hW9] at T9;clear hW9;obtain⟨ao,bb,cp,T9⟩:=T9;obtain⟨SL,hSL⟩ : ∃SL:List Nat,[]=SL:=⟨_,rfl⟩;rw[hSL] at T9;clear hSL;have HT:=Qg T9;have HC:=Ut W9 k0 k1 old size ao bb 0 cp SL (.slice none 0 0) T9.old64 HZ.out.2.2.1 T9.rd T9.len;obtain⟨e0,e1,e2,e3,e4,e5⟩:=T9.ps.six.cells;clear T9
  rcases hc:cnt k0 k1 old size SL with _|c
  ·rw[hc] at HC;simp only[cV] at HC;have HE:Hid (∀w',Ch p w w'->PrQ w p s pnc w'):=fun w' hc'=>Y6 (by rw[HT.out.dc,QaY hc]) Ya hc'
   clear hc
   go_wp2_with (first
    | (go_at_call 105;with_reducible refine HC.mono ?_;rintro x w1 ⟨rfl,hb⟩;(have T10:=HT.out.more HP.out.1 hb))
    | (go_at_call 106;refine(Ub _ _ rfl).mono ?_;rintro x w3 ⟨rfl,rfl⟩))
   exact⟨rfl,HE.out _ T10.ps.ch⟩
  rw[hc] at HC;simp only[cV] at HC;have HK2:Hid (cnt k0 k1 old size SL=some c):=hc;clear hc
  go_upto_region 14 with (first
   | (go_at_call 105;with_reducible refine HC.mono ?_;rintro x w1 ⟨rfl,hb⟩;(have T10:=HT.out.more HP.out.1 hb);(have HT10:=Qg T10);clear T10 hb)
   | (go_at_call 106;refine(YD _ _ rfl).mono ?_;rintro x w3 ⟨rfl,rfl⟩))
  clear HT HC e0 e1 e2 e3 e4 e5;obtain⟨e0,e1,e2,e3,e4,e5⟩:=HT10.out.ps.six.cells
  by_cases hl:c*k1=s4.data.toList.length
  ·have HG:=Oy w3 p c k1 s4 HT10.out.ps.rd HT10.out.sz (QL HK2.out).hc (by have:=(QL HK2.out).k32;omega) hl
   have HL:Hid (c*k1=s4.data.toList.length):=hl;clear hl
   go_upto_region 15 with (go_at_call 107;with_reducible refine HG.mono ?_;rintro x w5 ⟨g,rfl,o5,c5,t5,r5⟩;(have P11:=HT10.out.ps.read HP.out.1 r5 c5);(have f0:=P11.six.fz);(obtain⟨e0,e1,e2,e3,e4,e5⟩:=P11.six.cells))
   have O11:Cv.Own w5 w.heap.size (.slice ao SL.length cp) SL:=Qj HT10.out.own fun b hb _=>c5.block b (HT10.out.own.lt b hb).2 (by have:=(HT10.out.own.lt b hb).1;have:=HP.out.1;omega)
   have O12:=JU (i:=5) (x := .slice (some ⟨g,0,none⟩) c c) O11 P11.six;have D11:Qk w5 w.heap.size (.slice (some ⟨g,0,none⟩) c c) (YB c k1 s4.data.toList):=o5.mono HT10.out.ps.ch.below.size;have D12:Qk (w5.setCell ⟨w.heap.size+1,5,none⟩ (.slice (some ⟨g,0,none⟩) c c)) w.heap.size (.slice (some ⟨g,0,none⟩) c c) (YB c k1 s4.data.toList):=Qj D11 fun b hb _=>Below.heap_setCell _ _ _ _ (YU D11 P11.six (by decide) b hb)
   have P12:=P11.set HP.out.1 5 _ (P11.six.set5 (.slice (some ⟨g,0,none⟩) c c));have HD12:Hid (dec s.data.toList=some ⟨k0,k1,old,size,SL,YB c k1 s4.data.toList⟩):=HT10.out.dc.trans (Qbx HK2.out HL.out);clear HT10 HG o5 c5 r5 P11 O11 D11 f0 e0 e1 e2 e3 e4 e5 HL HK2;obtain⟨W12,hW12⟩:=Ze (w5.setCell ⟨w.heap.size+1,5,none⟩ (.slice (some ⟨g,0,none⟩) c c))
   try rw[hW12]
   rw[hW12] at O12 D12 P12;clear hW12;obtain⟨e0,e1,e2,e3,e4,e5⟩:=P12.six.cells;obtain⟨m0,m1,m2,m3,m4,m5⟩:=P12.res.cells;have f0:=P12.res.fz;have h11:=P12.res.put (.int .i64 (k0:Int)) (.int .i64 (k1:Int)) (.int .u64 (old:Int)) (.int .u64 (size:Int)) (.slice ao SL.length cp) (.slice (some ⟨g,0,none⟩) c c);have hc11:=QP W12 w.heap.size (.int .i64 (k0:Int)) (.int .i64 (k1:Int)) (.int .u64 (old:Int)) (.int .u64 (size:Int)) (.slice ao SL.length cp) (.slice (some ⟨g,0,none⟩) c c);have HF:Hid (Cv.Own (QT W12 w.heap.size (.int .i64 (k0:Int)) (.int .i64 (k1:Int)) (.int .u64 (old:Int)) (.int .u64 (size:Int)) (.slice ao SL.length cp) (.slice (some ⟨g,0,none⟩) c c)) w.heap.size (.slice ao SL.length cp) SL∧Qk (QT W12 w.heap.size (.int .i64 (k0:Int)) (.int .i64 (k1:Int)) (.int .u64 (old:Int)) (.int .u64 (size:Int)) (.slice ao SL.length cp) (.slice (some ⟨g,0,none⟩) c c)) w.heap.size (.slice (some ⟨g,0,none⟩) c c) (YB c k1 s4.data.toList)∧Ch p w (QT W12 w.heap.size (.int .i64 (k0:Int)) (.int .i64 (k1:Int)) (.int .u64 (old:Int)) (.int .u64 (size:Int)) (.slice ao SL.length cp) (.slice (some ⟨g,0,none⟩) c c))):=by
    refine⟨Qj O12 fun b hb _=>hc11.block b (YU O12 P12.res (by decide) b hb),Qj D12 fun b hb _=>hc11.block b (YU D12 P12.res (by decide) b hb),P12.ch.low (hc11.below (by rintro b rfl;exact Lb _)) HP.out.1⟩
   unfold QT at h11 HF;clear hc11 O12 D12 P12;go_wp2;obtain⟨s0,s1,s2,s3,s4',s5⟩:=h11.cells;refine bodyPost_ret (v:=pv6 k0 k1 old size (.slice ao SL.length cp) (.slice (some ⟨g,0,none⟩) c c)) (by simp[results,Tryz.results58,go_sem,s0,s1,s2,s3,s4',s5]) rfl ?_
   exact .inl ⟨_,_,_,HD12.out,rfl,HF.out.1,HF.out.2.1,HF.out.2.2⟩
  ·have HG:=Ox w3 p c k1 s4 HT10.out.ps.rd HT10.out.sz (QL HK2.out).hc (by have:=(QL HK2.out).k32;omega) hl
   have HE:Hid (PrQ w p s pnc w3):=Y6 (by rw[HT10.out.dc,Qbw HK2.out hl]) Ya HT10.out.ps.ch
   go_wp2_with (go_at_call 107;with_reducible refine HG.mono ?_;rintro x w5 ⟨rfl,rfl⟩)
   exact⟨rfl,HE.out⟩
 have hb1:((k0:Int) == 1)=false:=beq_false_of_ne (by omega)
 have hb2:((k0:Int) == 2)=false:=beq_false_of_ne (by omega)
 have hb3:((k0:Int) == 3)=false:=beq_false_of_ne (by omega)
 obtain⟨e0,e1,e2,e3,e4,e5⟩:=HP7.out.six.cells;rw[JF (Qfs h1 h2 h3)] at HD;have HC:Zr 105 #[.agg #[.int .i64 (k0:Int),.int .i64 (k1:Int),.int .u64 0,.int .u64 (size:Int),.slice none 0 0,.slice none 0 0]] W7 (.tuple #[.int .u64 0,.int .i64 150]):=by
  have:=Ut W7 k0 k1 0 size none 0 0 0 [] (.slice none 0 0) (by decide) HZ.out.2.2.1 ⟨rfl,fun h=>absurd h (NB 0),fun j v h=>by cases h⟩ (fun _=>by simp)
  rw[J6 (by omega) (by omega) (by omega)] at this
  exact this
 have HE:Hid (∀w',Zb W7 w'->PrQ w p s pnc w'):=fun w' hb=>Y6 (by rw[HD.out,QaY (J6 (by omega) (by omega) (by omega))]) Ya (HP7.out.more HP.out.1 hb).ch
 clear h1 h2 h3 HP7
 go_wp2_with (first
  | (go_at_call 105;with_reducible refine HC.mono ?_;rintro x w1 ⟨rfl,hb⟩)
  | (go_at_call 106;refine(Ub _ _ rfl).mono ?_;rintro x w3 ⟨rfl,rfl⟩))
 exact⟨rfl,HE.out _ hb⟩
end Go.Proofs.YtdocjikpcbmcgaaGreatDoor
