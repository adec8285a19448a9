/- Own work. -/
import Derived.Test.YtoblgjledefdbabGreatDoorQs19
set_option maxRecDepth 100000
set_option maxHeartbeats 4000000
namespace Go.Proofs.YtoblgjledefdbabGreatDoor
open Go.RowKit
attribute [local go_sem ↓] Go.wp_at_zero Go.wp_at_succ
open Go.Proofs.Tryz
theorem QcK{w:World}{p:Nat}{s:BA}(hr:Rdr w p s 0)(hs:s.size<=9223372036854775807)(h:s.data.toList=[]) :
  Calls prog 98 #[Zv p] w fun e w'=>e=pnc∧Ch p w w':=by
 refine(QbT w p s hr hs).mono ?_
 rintro e w' (⟨n,s',g1,_⟩|⟨_,g2,g3⟩)
 ·rw[h] at g1;cases g1
 ·exact⟨g2,g3⟩
theorem QcL{w:World}{p:Nat}{s:BA}{b:UInt8}{r:List UInt8}(hr:Rdr w p s 0)(hs:s.size<=9223372036854775807)(h:s.data.toList=b::r) :
  Calls prog 98 #[Zv p] w fun e w'=> ∃s',s'.data.toList=r∧e= .returned (.int .i64 b.toNat)∧Rdr w' p s' 0∧Ch p w w'∧s'.size<=s.size:=by
 refine(QbT w p s hr hs).mono ?_
 rintro e w' (⟨n',s',g1,g2⟩|⟨g1,_⟩)
 ·rw[h] at g1;cases g1;exact⟨s',rfl,g2⟩
 ·rw[h] at g1;cases g1
section
variable {w W:World} {s:Nat} {a b c d e f:Value}
theorem Six.set0(h:Six w s a b c d e f)(x:Value):Six (w.setCell ⟨s,0,none⟩ x) s x b c d e f:=Ln w s 0 _ _ x h
theorem Six.set1(h:Six w s a b c d e f)(x:Value):Six (w.setCell ⟨s,1,none⟩ x) s a x c d e f:=Ln w s 1 _ _ x h
theorem Six.set2(h:Six w s a b c d e f)(x:Value):Six (w.setCell ⟨s,2,none⟩ x) s a b x d e f:=Ln w s 2 _ _ x h
theorem Six.set3(h:Six w s a b c d e f)(x:Value):Six (w.setCell ⟨s,3,none⟩ x) s a b c x e f:=Ln w s 3 _ _ x h
theorem Six.set4(h:Six w s a b c d e f)(x:Value):Six (w.setCell ⟨s,4,none⟩ x) s a b c d x f:=Ln w s 4 _ _ x h
theorem Six.set5(h:Six w s a b c d e f)(x:Value):Six (w.setCell ⟨s,5,none⟩ x) s a b c d e x:=Ln w s 5 _ _ x h
end
structure PS(w:World)(p:Nat)(wr:World)(s:BA)(a b c d e f:Value):Prop where
 rd:Rdr wr p s 0
 ch:Ch p w wr
 res:Six wr w.heap.size (.int .i64 0) (.int .i64 0) (.int .u64 0) (.int .u64 0) (.slice none 0 0) (.slice none 0 0)
 six:Six wr (w.heap.size+1) a b c d e f
section
variable {w wr w1:World} {p:Nat} {s s':BA} {a b c d e f:Value}
theorem PS.read(h:PS w p wr s a b c d e f)(hp:p<w.heap.size)(hr:Rdr w1 p s' 0)(hc:Ch p wr w1):PS w p w1 s' a b c d e f :=
 ⟨hr,h.ch.trans hc,h.res.same (hc.block _ h.res.lt (by omega)),h.six.same (hc.block _ h.six.lt (by omega))⟩
theorem PS.more(h:PS w p wr s a b c d e f)(hp:p<w.heap.size)(hb:Below wr.heap.size wr w1):PS w p w1 s a b c d e f :=
 ⟨h.rd.next hb h.rd.lt,h.ch.low (hb.mono h.ch.below.size) hp,h.res.next hb,h.six.next hb⟩
theorem PS.set(h:PS w p wr s a b c d e f)(hp:p<w.heap.size)(i:Nat)(v:Value){a' b' c' d' e' f':Value}(h6:Six (wr.setCell ⟨w.heap.size+1,i,none⟩ v) (w.heap.size+1) a' b' c' d' e' f'):PS w p (wr.setCell ⟨w.heap.size+1,i,none⟩ v) s a' b' c' d' e' f':=by
 have hb:Below (w.heap.size+1) wr (wr.setCell ⟨w.heap.size+1,i,none⟩ v):=(Lc _ _).setCell (p:=⟨w.heap.size+1,i,none⟩) (Lb _) v;exact⟨h.rd.next hb (by omega),h.ch.low (hb.mono (by omega)) hp,h.res.same (hb.block _ (by omega)),h6⟩
end
theorem Qkt(w:World)(p:Nat)(s:BA)(hr:Rdr w p s 0)(o:Obj)(ho:o= .cells #[.int .i64 0,.int .i64 0,.int .u64 0,.int .u64 0,.slice none 0 0,.slice none 0 0] 68) :
  PS w p ((w.alloc o).alloc o) s (.int .i64 0) (.int .i64 0) (.int .u64 0) (.int .u64 0) (.slice none 0 0) (.slice none 0 0):=by
 subst ho;have hb:=bal (bal (Lc w.heap.size w) (.cells #[.int .i64 0,.int .i64 0,.int .u64 0,.int .u64 0,.slice none 0 0,.slice none 0 0] 68)) (.cells #[.int .i64 0,.int .i64 0,.int .u64 0,.int .u64 0,.slice none 0 0,.slice none 0 0] 68);refine⟨hr.next hb hr.lt,(Ch.refl p w).low hb hr.lt,(Jf w _ _ _ _ _ _).next (bal (Lc _ _) _),?_⟩
 have:=Jf (w.alloc (.cells #[.int .i64 0,.int .i64 0,.int .u64 0,.int .u64 0,.slice none 0 0,.slice none 0 0] 68)) (.int .i64 0) (.int .i64 0) (.int .u64 0) (.int .u64 0) (.slice none 0 0) (.slice none 0 0)
 rwa [LK] at this
theorem Qke(w:World)(i:Nat):Cv.Own (w.alloc (.cells #[.int .u64 i] 31)) w.heap.size (.slice (Zp w.heap.size) 1 1) [i] :=
 ⟨rfl,.inr ⟨w.heap.size,1,_,rfl,Lb _,Lr w _,Lb _,by decide,rfl,rfl⟩⟩
theorem QeK{w:World}{B:Nat}{v:Value}{l:List Nat}(h:Cv.Own w B v l):∃ao b c,v= .slice ao l.length c∧RdU w ao b 0 l.length l∧(ao=none->c=0):=by
 rcases h.2 with ⟨rfl,h0⟩|⟨g,cap,cur,rfl,hg,_⟩
 ·have:l=[]:=List.length_eq_zero_iff.1 h0;subst this;exact⟨none,0,0,rfl,⟨rfl,fun h=>absurd h (NB 0),fun j v h=>by cases h⟩,fun _=>rfl⟩
 ·have:=QmI (l':=[]) (by rw[L7];exact h)
  exact⟨_,g,cap,rfl,this,fun h=>by cases h⟩
def decM(k0 k1 size:Nat)(l:List UInt8):Option PV:=match U5 k0 size l with|none=>none|some (old,S,l2)=>decB k0 k1 size old S l2
theorem QlM{k0 k1:Nat}{l:List UInt8}(h:nmb l=none):decA k0 k1 l=none:=by rw[decA,h]
theorem Qi2{k0 k1 size:Nat}{l r:List UInt8}(h:nmb l=some (size,r)):decA k0 k1 l=decM k0 k1 size r:=by rw[decA,h];rfl
theorem QcY{k0 k1 size:Nat}{l:List UInt8}(h:U5 k0 size l=none):decM k0 k1 size l=none:=by rw[decM,h]
theorem Jt{k0 k1 size old:Nat}{S:List Nat}{l r:List UInt8}(h:U5 k0 size l=some (old,S,r)):decM k0 k1 size l=decB k0 k1 size old S r:=by rw[decM,h]
theorem Qi3{k0 k1 size:Nat}{l:List UInt8}(h:∀o S r,U5 k0 size l=some (o,S,r)->2^40<size):decM k0 k1 size l=none:=by
 cases hm:U5 k0 size l with
 | none=>exact QcY hm
 | some a=>
  obtain⟨o,S,r⟩:=a;rw[Jt hm,decB,Qgx (by have:=h o S r hm;omega)]
theorem QaJ{k0 k1 size old:Nat}{S:List Nat}{l:List UInt8}(h:cnt k0 k1 old size S=none):decB k0 k1 size old S l=none:=by rw[decB,h]
theorem Qbe{k0 k1 size old c:Nat}{S:List Nat}{l:List UInt8}(h:cnt k0 k1 old size S=some c)(hl:¬c*k1=l.length):decB k0 k1 size old S l=none:=by rw[decB,h];simp only;rw[Le hl]
theorem Qbf{k0 k1 size old c:Nat}{S:List Nat}{l:List UInt8}(h:cnt k0 k1 old size S=some c)(hl:c*k1=l.length):decB k0 k1 size old S l=some ⟨k0,k1,old,size,S,Yq c k1 l⟩:=by rw[decB,h];simp only;rw[Lo hl]
theorem QeA{k0 size:Nat}{l:List UInt8}(h:k0=1):U5 k0 size l=match nmb l with|none=>none|some (i,r)=>some (0,[i],r):=by rw[U5,Lo h];cases nmb l <;> rfl
theorem Qct{k0 size:Nat}{l:List UInt8}(h:k0=2):U5 k0 size l=U5 2 size l:=by rw[h]
theorem QbD{k0 size:Nat}{l:List UInt8}(h:k0=3):U5 k0 size l=match nmb l with|none=>none|some (o,r)=>some (o,[],r):=by rw[U5,Le (by omega),Le (by omega),Lo h];cases nmb l <;> rfl
theorem QfL{k0 size:Nat}{l:List UInt8}(h1:k0≠1)(h2:k0≠2)(h3:k0≠3):U5 k0 size l=some (0,[],l):=by rw[U5,Le h1,Le h2,Le h3]
theorem YH{w:World}{B e size n q:Nat}{v:Value}{xs:List Value}{a b c d x y:Value}(h:w.ownsRow B e size v n xs)(h6:Six w q a b c d x y)(he:e≠68):∀g,v.ownBlock=some g->g≠q:=by
 rintro g hg rfl
 rcases h.2 with ⟨rfl,_⟩|⟨g',cap,cur,rfl,_,hh,_⟩
 ·cases hg
 ·cases hg;rw[Six,hh] at h6;injection h6 with h6
  injection h6 with _ e2 _
  exact he e2
structure TlC(w:World)(p:Nat)(s0:BA)(k0 k1 size:Nat)(W:World)(s:BA)(old:Nat)(SL:List Nat)(ao:OA)(bb cp:Nat):Prop where
 ps:PS w p W s (.int .i64 k0) (.int .i64 k1) (.int .u64 old) (.int .u64 size) (.slice ao SL.length cp) (.slice none 0 0)
 own:Cv.Own W w.heap.size (.slice ao SL.length cp) SL
 rd:RdU W ao bb 0 SL.length SL
 dc:dec s0.data.toList=decB k0 k1 size old SL s.data.toList
 len:size<=2^40->SL.length<=17592186044416
 old64:old<18446744073709551616
 sz:s.size<=281474976710656
theorem TlC.more{w:World}{p:Nat}{s0:BA}{k0 k1 size:Nat}{W W':World}{s:BA}{old:Nat}{SL:List Nat}{ao:OA}{bb cp:Nat}(h:TlC w p s0 k0 k1 size W s old SL ao bb cp)(hp:p<w.heap.size)(hb:Below W.heap.size W W'):TlC w p s0 k0 k1 size W' s old SL ao bb cp :=
 ⟨h.ps.more hp hb,Qr h.own (fun g hg _=>hb.block g (h.own.lt g hg).2),h.rd.next hb,h.dc,h.len,h.old64,h.sz⟩
theorem QkX{w:World}{p:Nat}{s0:BA}{k0 k1 size:Nat}{W:World}{s:BA}{old:Nat}{SL:List Nat}{sv:Value}(ps:PS w p W s (.int .i64 k0) (.int .i64 k1) (.int .u64 old) (.int .u64 size) sv (.slice none 0 0))(own:Cv.Own W w.heap.size sv SL)(dc:dec s0.data.toList=decB k0 k1 size old SL s.data.toList)(len:size<=2^40->SL.length<=17592186044416)(old64:old<18446744073709551616)(sz:s.size<=281474976710656):∃ao bb cp,TlC w p s0 k0 k1 size W s old SL ao bb cp:=by
 obtain⟨ao,bb,cp,rfl,hr,_⟩:=QeK own;exact⟨ao,bb,cp,ps,own,hr,dc,len,old64,sz⟩
theorem JF{wr:World}{B:Nat}{v:Value}{l:List Nat}{q i:Nat}{a b c d e f x:Value}(h:Cv.Own wr B v l)(h6:Six wr q a b c d e f):Cv.Own (wr.setCell ⟨q,i,none⟩ x) B v l :=
 Qr h fun g hg _=>Below.heap_setCell _ _ _ _ (YH h h6 (by decide) g hg)
def PrQ(w:World)(p:Nat)(s:BA)(e:Ending)(w':World):Prop :=
 (∃P sv dv,dec s.data.toList=some P∧e= .returned (pv6 P.kd P.k P.old P.size sv dv)∧Cv.Own w' w.heap.size sv P.S∧Qg w' w.heap.size dv P.D∧Ch p w w') ∨
  (dec s.data.toList=none∧pan e∧Ch p w w')
theorem YQ{w:World}{p:Nat}{s:BA}{e:Ending}{w':World}(h:dec s.data.toList=none)(he:pan e)(hc:Ch p w w'):PrQ w p s e w' := .inr ⟨h,he,hc⟩
theorem Qh7(w:World)(p:Nat)(s:BA)(hr:Rdr w p s 0)(hs:s.size<=281474976710656) :
  Calls prog 58 #[Zv p] w (PrQ w p s):=by
 have hp:=hr.lt;have HP:Hid (p<w.heap.size∧s.size<=281474976710656):=⟨hp,hs⟩;have P0:=Qkt w p s hr _ rfl;obtain⟨W0,hW0⟩:∃W0,(w.alloc (.cells #[.int .i64 0,.int .i64 0,.int .u64 0,.int .u64 0,.slice none 0 0,.slice none 0 0] 68)).alloc (.cells #[.int .i64 0,.int .i64 0,.int .u64 0,.int .u64 0,.slice none 0 0,.slice none 0 0] 68)=W0:=⟨_,rfl⟩;rw[hW0] at P0;have f0:=P0.six.fz;obtain⟨e0,e1,e2,e3,e4,e5⟩:=P0.six.cells;have P1:PS w p (Yb W0 (w.heap.size+1) (.int .i64 0) (.int .i64 0) (.int .u64 0) (.int .u64 0) (.slice none 0 0) (.slice none 0 0)) s (.int .i64 0) (.int .i64 0) (.int .u64 0) (.int .u64 0) (.slice none 0 0) (.slice none 0 0):=by
  have C1:=Yv W0 (w.heap.size+1) (.int .i64 0) (.int .i64 0) (.int .u64 0) (.int .u64 0) (.slice none 0 0) (.slice none 0 0);have hb:Below (w.heap.size+1) W0 (Yb W0 (w.heap.size+1) (.int .i64 0) (.int .i64 0) (.int .u64 0) (.int .u64 0) (.slice none 0 0) (.slice none 0 0)):=C1.below (fun b hb=>by omega)
  exact⟨P0.rd.next hb (by omega),P0.ch.low (hb.mono (by omega)) hp,P0.res.same (C1.block _ (by show ¬_=_;omega)),P0.six.put (.int .i64 0) (.int .i64 0) (.int .u64 0) (.int .u64 0) (.slice none 0 0) (.slice none 0 0)⟩
 clear hr hs hp;obtain⟨W1,hW1⟩:∃W1,Yb W0 (w.heap.size+1) (.int .i64 0) (.int .i64 0) (.int .u64 0) (.int .u64 0) (.slice none 0 0) (.slice none 0 0)=W1:=⟨_,rfl⟩;rw[hW1] at P1;unfold Yb at hW1
 go_enter func58,ntmps58
 go_upto_region 2 with (fail)
 try rw[hW1]
 clear hW1 hW0 P0 f0 e0 e1 e2 e3 e4 e5;have HP1:=YF P1;clear P1
 rcases hl0:s.data.toList with _|⟨b0,r0⟩
 ·have HN:=QcK HP1.out.rd (by have:=HP.out.2;omega) hl0
  have HE:Hid (∀w',Ch p W1 w'->PrQ w p s pnc w'):=fun w' hc=>YQ (by rw[hl0];rfl) QU (HP1.out.ch.trans hc)
  go_wp2_with (go_at_call 98;with_reducible refine HN.mono ?_;rintro x w1 ⟨rfl,hc⟩)
  exact⟨rfl,HE.out _ hc⟩
 have HN:=QcL HP1.out.rd (by have:=HP.out.2;omega) hl0
 go_upto_region 3 with (go_at_call 98;with_reducible refine HN.mono ?_;rintro x w1 ⟨s1,hl1,rfl,q1,q2,q3⟩;(have P2:=HP1.out.read HP.out.1 q1 q2);(have f0:=P2.six.fz);(obtain⟨e0,e1,e2,e3,e4,e5⟩:=P2.six.cells))
 have hs1:s1.size<=281474976710656:=by have:=HP.out.2;omega
 have P3:=P2.set HP.out.1 0 _ (P2.six.set0 (.int .i64 b0.toNat));clear q1 q2 q3 HN HP1 f0 e0 e1 e2 e3 e4 e5 P2;obtain⟨W3,hW3⟩:∃W3,w1.setCell ⟨w.heap.size+1,0,none⟩ (.int .i64 b0.toNat)=W3:=⟨_,rfl⟩
 try rw[hW3]
 rw[hW3] at P3;clear hW3;obtain⟨k0,hk0⟩:∃k0,b0.toNat=k0:=⟨_,rfl⟩;have hk8:k0<256:=by rw[<-hk0];exact b0.toNat_lt
 rw[hk0] at P3 ⊢;have HP3:=YF P3;clear P3
 rcases hl2:s1.data.toList with _|⟨b1,r1⟩
 ·have HN:=QcK HP3.out.rd (by omega) hl2
  have HE:Hid (∀w',Ch p W3 w'->PrQ w p s pnc w'):=fun w' hc=>YQ (by rw[hl0,<-hl1,hl2];rfl) QU (HP3.out.ch.trans hc)
  go_wp2_with (go_at_call 98;with_reducible refine HN.mono ?_;rintro x w1 ⟨rfl,hc⟩)
  exact⟨rfl,HE.out _ hc⟩
 have HN:=QcL HP3.out.rd (by omega) hl2
 go_upto_region 4 with (go_at_call 98;with_reducible refine HN.mono ?_;rintro x w4 ⟨s2,hl3,rfl,q1,q2,q3⟩;(have P4:=HP3.out.read HP.out.1 q1 q2);(have f0:=P4.six.fz);(obtain⟨e0,e1,e2,e3,e4,e5⟩:=P4.six.cells))
 have hs2:s2.size<=281474976710656:=by omega
 have P5:=P4.set HP.out.1 1 _ (P4.six.set1 (.int .i64 b1.toNat));clear q1 q2 q3 HN HP3 f0 e0 e1 e2 e3 e4 e5 P4 hs1;obtain⟨W5,hW5⟩:∃W5,w4.setCell ⟨w.heap.size+1,1,none⟩ (.int .i64 b1.toNat)=W5:=⟨_,rfl⟩
 try rw[hW5]
 rw[hW5] at P5;clear hW5;obtain⟨k1,hk1⟩:∃k1,b1.toNat=k1:=⟨_,rfl⟩;have hk9:k1<256:=by rw[<-hk1];exact b1.toNat_lt
 have HD:Hid (dec s.data.toList=decA k0 k1 s2.data.toList):=by rw[hl0,<-hl1,hl2,hl3,<-hk0,<-hk1];rfl
 rw[hk1] at P5 ⊢;have HP5:=YF P5;clear P5 hl0 hl1 hl2 hl3 hk0 hk1;clear b0 b1 r0 r1 s1 w1 w4 W0 W1 W3
 rcases hn:nmb s2.data.toList with _|⟨size,l1⟩
 ·have HN:=UG HP5.out.rd (by omega) hn
  have HE:Hid (∀w',Ch p W5 w'->PrQ w p s pnc w'):=fun w' hc=>YQ (by rw[HD.out,QlM hn]) QU (HP5.out.ch.trans hc)
  go_wp2_with (go_at_call 99;with_reducible refine HN.mono ?_;rintro x w1 ⟨rfl,hc⟩)
  exact⟨rfl,HE.out _ hc⟩
 have HN:=UH HP5.out.rd (by omega) hn
 have hz64:=Qdl hn;rw[Qi2 hn] at HD;clear hn
 go_upto_region 5 with (go_at_call 99;with_reducible refine HN.mono ?_;rintro x w4 ⟨s3,rfl,rfl,q1,q2,q3⟩;(have P6:=HP5.out.read HP.out.1 q1 q2);(have f0:=P6.six.fz);(obtain⟨e0,e1,e2,e3,e4,e5⟩:=P6.six.cells))
 have hs3:s3.size<=281474976710656:=by omega
 have P7:=P6.set HP.out.1 3 _ (P6.six.set3 (.int .u64 size));clear q1 q2 q3 HN HP5 f0 e0 e1 e2 e3 e4 e5 P6 hs2;obtain⟨W7,hW7⟩:∃W7,w4.setCell ⟨w.heap.size+1,3,none⟩ (.int .u64 size)=W7:=⟨_,rfl⟩
 try rw[hW7]
 rw[hW7] at P7;clear hW7;clear w4 W5 s2;have HP7:=YF P7;have HZ:Hid (k0<256∧k1<256∧size<18446744073709551616∧s3.size<=281474976710656):=⟨hk8,hk9,hz64,hs3⟩;clear P7 hk8 hk9 hz64 hs3
 by_cases h1:k0=1
 ·have hb1:((k0:Int) == 1)=true:=beq_iff_eq.2 (by omega)
  have HK:Hid (k0=1):=h1;clear h1;obtain⟨e0,e1,e2,e3,e4,e5⟩:=HP7.out.six.cells
  rcases hn:nmb s3.data.toList with _|⟨i,l2⟩
  ·have HN:=UG HP7.out.rd (by have:=HZ.out;omega) hn
   have HE:Hid (∀w',Ch p W7 w'->PrQ w p s pnc w'):=fun w' hc=>YQ (by rw[HD.out,QcY (by rw[QeA HK.out,hn])]) QU (HP7.out.ch.trans hc)
   go_wp2_with (go_at_call 99;with_reducible refine HN.mono ?_;rintro x w1 ⟨rfl,hc⟩)
   exact⟨rfl,HE.out _ hc⟩
  have HN:=UH HP7.out.rd (by have:=HZ.out;omega) hn
  rw[Jt (by rw[QeA HK.out,hn])] at HD
  clear hn
  go_upto_region 12 with (go_at_call 99;with_reducible refine HN.mono ?_;rintro x w4 ⟨s4,rfl,rfl,q1,q2,q3⟩;(have P8:=(HP7.out.read HP.out.1 q1 q2).more HP.out.1 (bal (Lc _ _) (.cells #[.int .u64 i] 31)));(have f0:=P8.six.fz);(obtain⟨e0,e1,e2,e3,e4,e5⟩:=P8.six.cells))
  have P9:=P8.set HP.out.1 4 _ (P8.six.set4 (.slice (Zp w4.heap.size) 1 1));have O9:Cv.Own ((w4.alloc (.cells #[.int .u64 i] 31)).setCell ⟨w.heap.size+1,4,none⟩ (.slice (Zp w4.heap.size) 1 1)) w.heap.size (.slice (Zp w4.heap.size) 1 1) [i]:=JF ((Qke w4 i).mono (Lt HP7.out.ch.below.size q2.below.size)) P8.six;have T9:=QkX (old:=0) P9 O9 HD.out (fun _=>by simp) (by decide) (by have:=HZ.out;omega)
  clear P8 P9 O9 q1 q2 q3 HN HP7 HD f0 e0 e1 e2 e3 e4 e5;obtain⟨W9,hW9⟩:∃W9,(w4.alloc (.cells #[.int .u64 i] 31)).setCell ⟨w.heap.size+1,4,none⟩ (.slice (Zp w4.heap.size) 1 1)=W9:=⟨_,rfl⟩
  try rw[hW9]
  rw[hW9] at T9;clear hW9;obtain⟨ao,bb,cp,T9⟩:=T9;generalize [i]=SL at T9;obtain⟨old,hold⟩:∃old:Nat,0=old:=⟨_,rfl⟩;rw[hold] at T9;clear hold;have HT:=YF T9;have HC:=Ym W9 k0 k1 old size ao bb 0 cp SL (.slice none 0 0) T9.old64 HZ.out.2.2.1 T9.rd T9.len;obtain⟨e0,e1,e2,e3,e4,e5⟩:=T9.ps.six.cells;clear T9
  rcases hc:cnt k0 k1 old size SL with _|c
  ·rw[hc] at HC;simp only[cV] at HC;have HE:Hid (∀w',Ch p w w'->PrQ w p s pnc w'):=fun w' hc'=>YQ (by rw[HT.out.dc,QaJ hc]) QU hc'
   clear hc
   go_wp2_with (first
    | (go_at_call 101;with_reducible refine HC.mono ?_;rintro x w1 ⟨rfl,hb⟩;(have T10:=HT.out.more HP.out.1 hb))
    | (go_at_call 102;refine(YR _ _ rfl).mono ?_;rintro x w3 ⟨rfl,rfl⟩))
   exact⟨rfl,HE.out _ T10.ps.ch⟩
  rw[hc] at HC;simp only[cV] at HC;have HK2:Hid (cnt k0 k1 old size SL=some c):=hc;clear hc
  go_upto_region 14 with (first
   | (go_at_call 101;with_reducible refine HC.mono ?_;rintro x w1 ⟨rfl,hb⟩;(have T10:=HT.out.more HP.out.1 hb);(have HT10:=YF T10);clear T10 hb)
   | (go_at_call 102;refine(Yr _ _ rfl).mono ?_;rintro x w3 ⟨rfl,rfl⟩))
  clear HT HC e0 e1 e2 e3 e4 e5;obtain⟨e0,e1,e2,e3,e4,e5⟩:=HT10.out.ps.six.cells
  by_cases hl:c*k1=s4.data.toList.length
  ·have HG:=Of w3 p c k1 s4 HT10.out.ps.rd HT10.out.sz (Yy HK2.out).hc (by have:=(Yy HK2.out).k32;omega) hl
   have HL:Hid (c*k1=s4.data.toList.length):=hl;clear hl
   go_upto_region 15 with (go_at_call 103;with_reducible refine HG.mono ?_;rintro x w5 ⟨g,rfl,o5,c5,t5,r5⟩;(have P11:=HT10.out.ps.read HP.out.1 r5 c5);(have f0:=P11.six.fz);(obtain⟨e0,e1,e2,e3,e4,e5⟩:=P11.six.cells))
   have O11:Cv.Own w5 w.heap.size (.slice ao SL.length cp) SL:=Qr HT10.out.own fun b hb _=>c5.block b (HT10.out.own.lt b hb).2 (by have:=(HT10.out.own.lt b hb).1;have:=HP.out.1;omega)
   have O12:=JF (i:=5) (x := .slice (Zp g) c c) O11 P11.six;have D11:Qg w5 w.heap.size (.slice (Zp g) c c) (Yq c k1 s4.data.toList):=o5.mono HT10.out.ps.ch.below.size;have D12:Qg (w5.setCell ⟨w.heap.size+1,5,none⟩ (.slice (Zp g) c c)) w.heap.size (.slice (Zp g) c c) (Yq c k1 s4.data.toList):=Qr D11 fun b hb _=>Below.heap_setCell _ _ _ _ (YH D11 P11.six (by decide) b hb)
   have P12:=P11.set HP.out.1 5 _ (P11.six.set5 (.slice (Zp g) c c));have HD12:Hid (dec s.data.toList=some ⟨k0,k1,old,size,SL,Yq c k1 s4.data.toList⟩):=HT10.out.dc.trans (Qbf HK2.out HL.out);clear HT10 HG o5 c5 r5 P11 O11 D11 f0 e0 e1 e2 e3 e4 e5 HL HK2;obtain⟨W12,hW12⟩:∃W12,w5.setCell ⟨w.heap.size+1,5,none⟩ (.slice (Zp g) c c)=W12:=⟨_,rfl⟩
   try rw[hW12]
   rw[hW12] at O12 D12 P12;clear hW12;obtain⟨e0,e1,e2,e3,e4,e5⟩:=P12.six.cells;obtain⟨m0,m1,m2,m3,m4,m5⟩:=P12.res.cells;have f0:=P12.res.fz;have h11:=P12.res.put (.int .i64 k0) (.int .i64 k1) (.int .u64 old) (.int .u64 size) (.slice ao SL.length cp) (.slice (Zp g) c c);have hc11:=Yv W12 w.heap.size (.int .i64 k0) (.int .i64 k1) (.int .u64 old) (.int .u64 size) (.slice ao SL.length cp) (.slice (Zp g) c c);have HF:Hid (Cv.Own (Yb W12 w.heap.size (.int .i64 k0) (.int .i64 k1) (.int .u64 old) (.int .u64 size) (.slice ao SL.length cp) (.slice (Zp g) c c)) w.heap.size (.slice ao SL.length cp) SL∧Qg (Yb W12 w.heap.size (.int .i64 k0) (.int .i64 k1) (.int .u64 old) (.int .u64 size) (.slice ao SL.length cp) (.slice (Zp g) c c)) w.heap.size (.slice (Zp g) c c) (Yq c k1 s4.data.toList)∧Ch p w (Yb W12 w.heap.size (.int .i64 k0) (.int .i64 k1) (.int .u64 old) (.int .u64 size) (.slice ao SL.length cp) (.slice (Zp g) c c))):=by
    refine⟨Qr O12 fun b hb _=>hc11.block b (YH O12 P12.res (by decide) b hb),Qr D12 fun b hb _=>hc11.block b (YH D12 P12.res (by decide) b hb),P12.ch.low (hc11.below (by rintro b rfl;exact Lb _)) HP.out.1⟩
   unfold Yb at h11 HF;clear hc11 O12 D12 P12;go_wp2;obtain⟨s0,s1,s2,s3,s4',s5⟩:=h11.cells;refine LA (v:=pv6 k0 k1 old size (.slice ao SL.length cp) (.slice (Zp g) c c)) (by simp[results,results58,go_sem,s0,s1,s2,s3,s4',s5]) rfl ?_
   exact .inl ⟨_,_,_,HD12.out,rfl,HF.out.1,HF.out.2.1,HF.out.2.2⟩
  ·have HG:=Oe w3 p c k1 s4 HT10.out.ps.rd HT10.out.sz (Yy HK2.out).hc (by have:=(Yy HK2.out).k32;omega) hl
   have HE:Hid (PrQ w p s pnc w3):=YQ (by rw[HT10.out.dc,Qbe HK2.out hl]) QU HT10.out.ps.ch
   go_wp2_with (go_at_call 103;with_reducible refine HG.mono ?_;rintro x w5 ⟨rfl,rfl⟩)
   exact⟨rfl,HE.out⟩
 by_cases h2:k0=2
 ·have hb1:((k0:Int) == 1)=false:=beq_false_of_ne (by omega)
  have hb2:((k0:Int) == 2)=true:=beq_iff_eq.2 (by omega)
  have HK:Hid (k0=2):=h2;clear h1 h2;obtain⟨e0,e1,e2,e3,e4,e5⟩:=HP7.out.six.cells;have HN:=Qm6 W7 p size s3 HP7.out.rd HZ.out.2.2.2 HZ.out.2.2.1;have HE:Hid (∀w' e,Ch p W7 w'->(∀o S r,U5 2 size s3.data.toList=some (o,S,r)->2^40<size)->pan e->PrQ w p s e w'):=fun w' e hc hm he=>YQ (by rw[HD.out,Qi3 (by rw[Qct HK.out];exact hm)]) he (HP7.out.ch.trans hc)
  go_upto_region 12 with (go_at_call 100;((with_reducible refine HN.mono ?_);rintro x w4 hq;rcases hq with ⟨SL,s4,g,c2,hm,rfl,o4,q1,q2,q3⟩|⟨hm,⟨u,v,rfl⟩,q2⟩;rotate_left;(exact⟨rfl,HE.out _ _ q2 hm ⟨u,v,rfl⟩⟩);(have P8:=HP7.out.read HP.out.1 q1 q2);(have f0:=P8.six.fz);(obtain⟨e0,e1,e2,e3,e4,e5⟩:=P8.six.cells)))
  rw[Jt (by rw[Qct HK.out];exact hm)] at HD
  have P9:=P8.set HP.out.1 4 _ (P8.six.set4 (.slice (Zp g) SL.length c2));have O9:Cv.Own (w4.setCell ⟨w.heap.size+1,4,none⟩ (.slice (Zp g) SL.length c2)) w.heap.size (.slice (Zp g) SL.length c2) SL:=JF (o4.mono HP7.out.ch.below.size) P8.six;have hSL:size<=2^40->SL.length<=17592186044416:=fun hz=>by
   rw[UF] at hm
   split at hm
   ·cases hm
   ·split at hm
    ·split at hm
     ·cases hm
     ·rename_i hs
      cases hm;obtain⟨z1,z2,z3⟩:=Qar _ _ _ _ _ (Lm _) hs;have:=JM z3;omega
    ·cases hm
  have T9:=QkX (old:=0) P9 O9 HD.out hSL (by decide) (by have:=HZ.out;omega)
  clear P8 P9 O9 o4 hm hSL q1 q2 q3 HN HP7 HD HE f0 e0 e1 e2 e3 e4 e5;obtain⟨W9,hW9⟩:∃W9,w4.setCell ⟨w.heap.size+1,4,none⟩ (.slice (Zp g) SL.length c2)=W9:=⟨_,rfl⟩
  try rw[hW9]
  rw[hW9] at T9;clear hW9;obtain⟨ao,bb,cp,T9⟩:=T9;obtain⟨old,hold⟩:∃old:Nat,0=old:=⟨_,rfl⟩;rw[hold] at T9;clear hold;have HT:=YF T9;have HC:=Ym W9 k0 k1 old size ao bb 0 cp SL (.slice none 0 0) T9.old64 HZ.out.2.2.1 T9.rd T9.len;obtain⟨e0,e1,e2,e3,e4,e5⟩:=T9.ps.six.cells;clear T9
  rcases hc:cnt k0 k1 old size SL with _|c
  ·rw[hc] at HC;simp only[cV] at HC;have HE:Hid (∀w',Ch p w w'->PrQ w p s pnc w'):=fun w' hc'=>YQ (by rw[HT.out.dc,QaJ hc]) QU hc'
   clear hc
   go_wp2_with (first
    | (go_at_call 101;with_reducible refine HC.mono ?_;rintro x w1 ⟨rfl,hb⟩;(have T10:=HT.out.more HP.out.1 hb))
    | (go_at_call 102;refine(YR _ _ rfl).mono ?_;rintro x w3 ⟨rfl,rfl⟩))
   exact⟨rfl,HE.out _ T10.ps.ch⟩
  rw[hc] at HC;simp only[cV] at HC;have HK2:Hid (cnt k0 k1 old size SL=some c):=hc;clear hc
  go_upto_region 14 with (first
   | (go_at_call 101;with_reducible refine HC.mono ?_;rintro x w1 ⟨rfl,hb⟩;(have T10:=HT.out.more HP.out.1 hb);(have HT10:=YF T10);clear T10 hb)
   | (go_at_call 102;refine(Yr _ _ rfl).mono ?_;rintro x w3 ⟨rfl,rfl⟩))
  clear HT HC e0 e1 e2 e3 e4 e5;obtain⟨e0,e1,e2,e3,e4,e5⟩:=HT10.out.ps.six.cells
  by_cases hl:c*k1=s4.data.toList.length
  ·have HG:=Of w3 p c k1 s4 HT10.out.ps.rd HT10.out.sz (Yy HK2.out).hc (by have:=(Yy HK2.out).k32;omega) hl
   have HL:Hid (c*k1=s4.data.toList.length):=hl;clear hl
   go_upto_region 15 with (go_at_call 103;with_reducible refine HG.mono ?_;rintro x w5 ⟨g,rfl,o5,c5,t5,r5⟩;(have P11:=HT10.out.ps.read HP.out.1 r5 c5);(have f0:=P11.six.fz);(obtain⟨e0,e1,e2,e3,e4,e5⟩:=P11.six.cells))
   have O11:Cv.Own w5 w.heap.size (.slice ao SL.length cp) SL:=Qr HT10.out.own fun b hb _=>c5.block b (HT10.out.own.lt b hb).2 (by have:=(HT10.out.own.lt b hb).1;have:=HP.out.1;omega)
   have O12:=JF (i:=5) (x := .slice (Zp g) c c) O11 P11.six;have D11:Qg w5 w.heap.size (.slice (Zp g) c c) (Yq c k1 s4.data.toList):=o5.mono HT10.out.ps.ch.below.size;have D12:Qg (w5.setCell ⟨w.heap.size+1,5,none⟩ (.slice (Zp g) c c)) w.heap.size (.slice (Zp g) c c) (Yq c k1 s4.data.toList):=Qr D11 fun b hb _=>Below.heap_setCell _ _ _ _ (YH D11 P11.six (by decide) b hb)
   have P12:=P11.set HP.out.1 5 _ (P11.six.set5 (.slice (Zp g) c c));have HD12:Hid (dec s.data.toList=some ⟨k0,k1,old,size,SL,Yq c k1 s4.data.toList⟩):=HT10.out.dc.trans (Qbf HK2.out HL.out);clear HT10 HG o5 c5 r5 P11 O11 D11 f0 e0 e1 e2 e3 e4 e5 HL HK2;obtain⟨W12,hW12⟩:∃W12,w5.setCell ⟨w.heap.size+1,5,none⟩ (.slice (Zp g) c c)=W12:=⟨_,rfl⟩
   try rw[hW12]
   rw[hW12] at O12 D12 P12;clear hW12;obtain⟨e0,e1,e2,e3,e4,e5⟩:=P12.six.cells;obtain⟨m0,m1,m2,m3,m4,m5⟩:=P12.res.cells;have f0:=P12.res.fz;have h11:=P12.res.put (.int .i64 k0) (.int .i64 k1) (.int .u64 old) (.int .u64 size) (.slice ao SL.length cp) (.slice (Zp g) c c);have hc11:=Yv W12 w.heap.size (.int .i64 k0) (.int .i64 k1) (.int .u64 old) (.int .u64 size) (.slice ao SL.length cp) (.slice (Zp g) c c);have HF:Hid (Cv.Own (Yb W12 w.heap.size (.int .i64 k0) (.int .i64 k1) (.int .u64 old) (.int .u64 size) (.slice ao SL.length cp) (.slice (Zp g) c c)) w.heap.size (.slice ao SL.length cp) SL∧Qg (Yb W12 w.heap.size (.int .i64 k0) (.int .i64 k1) (.int .u64 old) (.int .u64 size) (.slice ao SL.length cp) (.slice (Zp g) c c)) w.heap.size (.slice (Zp g) c c) (Yq c k1 s4.data.toList)∧Ch p w (Yb W12 w.heap.size (.int .i64 k0) (.int .i64 k1) (.int .u64 old) (.int .u64 size) (.slice ao SL.length cp) (.slice (Zp g) c c))):=by
    refine⟨Qr O12 fun b hb _=>hc11.block b (YH O12 P12.res (by decide) b hb),Qr D12 fun b hb _=>hc11.block b (YH D12 P12.res (by decide) b hb),P12.ch.low (hc11.below (by rintro b rfl;exact Lb _)) HP.out.1⟩
   unfold Yb at h11 HF;clear hc11 O12 D12 P12;go_wp2;obtain⟨s0,s1,s2,s3,s4',s5⟩:=h11.cells;refine LA (v:=pv6 k0 k1 old size (.slice ao SL.length cp) (.slice (Zp g) c c)) (by simp[results,results58,go_sem,s0,s1,s2,s3,s4',s5]) rfl ?_
   exact .inl ⟨_,_,_,HD12.out,rfl,HF.out.1,HF.out.2.1,HF.out.2.2⟩
  ·have HG:=Oe w3 p c k1 s4 HT10.out.ps.rd HT10.out.sz (Yy HK2.out).hc (by have:=(Yy HK2.out).k32;omega) hl
   have HE:Hid (PrQ w p s pnc w3):=YQ (by rw[HT10.out.dc,Qbe HK2.out hl]) QU HT10.out.ps.ch
   go_wp2_with (go_at_call 103;with_reducible refine HG.mono ?_;rintro x w5 ⟨rfl,rfl⟩)
   exact⟨rfl,HE.out⟩
 by_cases h3:k0=3
 ·have hb1:((k0:Int) == 1)=false:=beq_false_of_ne (by omega)
  have hb2:((k0:Int) == 2)=false:=beq_false_of_ne (by omega)
  have hb3:((k0:Int) == 3)=true:=beq_iff_eq.2 (by omega)
  have HK:Hid (k0=3):=h3;clear h1 h2 h3;obtain⟨e0,e1,e2,e3,e4,e5⟩:=HP7.out.six.cells
  rcases hn:nmb s3.data.toList with _|⟨old,l2⟩
  ·have HN:=UG HP7.out.rd (by have:=HZ.out;omega) hn
   have HE:Hid (∀w',Ch p W7 w'->PrQ w p s pnc w'):=fun w' hc=>YQ (by rw[HD.out,QcY (by rw[QbD HK.out,hn])]) QU (HP7.out.ch.trans hc)
   go_wp2_with (go_at_call 99;with_reducible refine HN.mono ?_;rintro x w1 ⟨rfl,hc⟩)
   exact⟨rfl,HE.out _ hc⟩
  have HN:=UH HP7.out.rd (by have:=HZ.out;omega) hn
  have ho64:=Qdl hn;rw[Jt (by rw[QbD HK.out,hn])] at HD
  clear hn
  go_upto_region 12 with (go_at_call 99;with_reducible refine HN.mono ?_;rintro x w4 ⟨s4,rfl,rfl,q1,q2,q3⟩;(have P8:=HP7.out.read HP.out.1 q1 q2);(have f0:=P8.six.fz);(obtain⟨e0,e1,e2,e3,e4,e5⟩:=P8.six.cells))
  have P9:=P8.set HP.out.1 2 _ (P8.six.set2 (.int .u64 old));have T9:=QkX P9 (Nj _ _ _ _) HD.out (fun _=>by simp) ho64 (by have:=HZ.out;omega)
  clear P8 P9 q1 q2 q3 HN HP7 HD f0 e0 e1 e2 e3 e4 e5 ho64;obtain⟨W9,hW9⟩:∃W9,w4.setCell ⟨w.heap.size+1,2,none⟩ (.int .u64 old)=W9:=⟨_,rfl⟩
  try rw[hW9]
  rw[hW9] at T9;clear hW9;obtain⟨ao,bb,cp,T9⟩:=T9;obtain⟨SL,hSL⟩:∃SL:List Nat,[]=SL:=⟨_,rfl⟩;rw[hSL] at T9;clear hSL;have HT:=YF T9;have HC:=Ym W9 k0 k1 old size ao bb 0 cp SL (.slice none 0 0) T9.old64 HZ.out.2.2.1 T9.rd T9.len;obtain⟨e0,e1,e2,e3,e4,e5⟩:=T9.ps.six.cells;clear T9
  rcases hc:cnt k0 k1 old size SL with _|c
  ·rw[hc] at HC;simp only[cV] at HC;have HE:Hid (∀w',Ch p w w'->PrQ w p s pnc w'):=fun w' hc'=>YQ (by rw[HT.out.dc,QaJ hc]) QU hc'
   clear hc
   go_wp2_with (first
    | (go_at_call 101;with_reducible refine HC.mono ?_;rintro x w1 ⟨rfl,hb⟩;(have T10:=HT.out.more HP.out.1 hb))
    | (go_at_call 102;refine(YR _ _ rfl).mono ?_;rintro x w3 ⟨rfl,rfl⟩))
   exact⟨rfl,HE.out _ T10.ps.ch⟩
  rw[hc] at HC;simp only[cV] at HC;have HK2:Hid (cnt k0 k1 old size SL=some c):=hc;clear hc
  go_upto_region 14 with (first
   | (go_at_call 101;with_reducible refine HC.mono ?_;rintro x w1 ⟨rfl,hb⟩;(have T10:=HT.out.more HP.out.1 hb);(have HT10:=YF T10);clear T10 hb)
   | (go_at_call 102;refine(Yr _ _ rfl).mono ?_;rintro x w3 ⟨rfl,rfl⟩))
  clear HT HC e0 e1 e2 e3 e4 e5;obtain⟨e0,e1,e2,e3,e4,e5⟩:=HT10.out.ps.six.cells
  by_cases hl:c*k1=s4.data.toList.length
  ·have HG:=Of w3 p c k1 s4 HT10.out.ps.rd HT10.out.sz (Yy HK2.out).hc (by have:=(Yy HK2.out).k32;omega) hl
   have HL:Hid (c*k1=s4.data.toList.length):=hl;clear hl
   go_upto_region 15 with (go_at_call 103;with_reducible refine HG.mono ?_;rintro x w5 ⟨g,rfl,o5,c5,t5,r5⟩;(have P11:=HT10.out.ps.read HP.out.1 r5 c5);(have f0:=P11.six.fz);(obtain⟨e0,e1,e2,e3,e4,e5⟩:=P11.six.cells))
   have O11:Cv.Own w5 w.heap.size (.slice ao SL.length cp) SL:=Qr HT10.out.own fun b hb _=>c5.block b (HT10.out.own.lt b hb).2 (by have:=(HT10.out.own.lt b hb).1;have:=HP.out.1;omega)
   have O12:=JF (i:=5) (x := .slice (Zp g) c c) O11 P11.six;have D11:Qg w5 w.heap.size (.slice (Zp g) c c) (Yq c k1 s4.data.toList):=o5.mono HT10.out.ps.ch.below.size;have D12:Qg (w5.setCell ⟨w.heap.size+1,5,none⟩ (.slice (Zp g) c c)) w.heap.size (.slice (Zp g) c c) (Yq c k1 s4.data.toList):=Qr D11 fun b hb _=>Below.heap_setCell _ _ _ _ (YH D11 P11.six (by decide) b hb)
   have P12:=P11.set HP.out.1 5 _ (P11.six.set5 (.slice (Zp g) c c));have HD12:Hid (dec s.data.toList=some ⟨k0,k1,old,size,SL,Yq c k1 s4.data.toList⟩):=HT10.out.dc.trans (Qbf HK2.out HL.out);clear HT10 HG o5 c5 r5 P11 O11 D11 f0 e0 e1 e2 e3 e4 e5 HL HK2;obtain⟨W12,hW12⟩:∃W12,w5.setCell ⟨w.heap.size+1,5,none⟩ (.slice (Zp g) c c)=W12:=⟨_,rfl⟩
   try rw[hW12]
   rw[hW12] at O12 D12 P12;clear hW12;obtain⟨e0,e1,e2,e3,e4,e5⟩:=P12.six.cells;obtain⟨m0,m1,m2,m3,m4,m5⟩:=P12.res.cells;have f0:=P12.res.fz;have h11:=P12.res.put (.int .i64 k0) (.int .i64 k1) (.int .u64 old) (.int .u64 size) (.slice ao SL.length cp) (.slice (Zp g) c c);have hc11:=Yv W12 w.heap.size (.int .i64 k0) (.int .i64 k1) (.int .u64 old) (.int .u64 size) (.slice ao SL.length cp) (.slice (Zp g) c c);have HF:Hid (Cv.Own (Yb W12 w.heap.size (.int .i64 k0) (.int .i64 k1) (.int .u64 old) (.int .u64 size) (.slice ao SL.length cp) (.slice (Zp g) c c)) w.heap.size (.slice ao SL.length cp) SL∧Qg (Yb W12 w.heap.size (.int .i64 k0) (.int .i64 k1) (.int .u64 old) (.int .u64 size) (.slice ao SL.length cp) (.slice (Zp g) c c)) w.heap.size (.slice (Zp g) c c) (Yq c k1 s4.data.toList)∧Ch p w (Yb W12 w.heap.size (.int .i64 k0) (.int .i64 k1) (.int .u64 old) (.int .u64 size) (.slice ao SL.length cp) (.slice (Zp g) c c))):=by
    refine⟨Qr O12 fun b hb _=>hc11.block b (YH O12 P12.res (by decide) b hb),Qr D12 fun b hb _=>hc11.block b (YH D12 P12.res (by decide) b hb),P12.ch.low (hc11.below (by rintro b rfl;exact Lb _)) HP.out.1⟩
   unfold Yb at h11 HF;clear hc11 O12 D12 P12;go_wp2;obtain⟨s0,s1,s2,s3,s4',s5⟩:=h11.cells;refine LA (v:=pv6 k0 k1 old size (.slice ao SL.length cp) (.slice (Zp g) c c)) (by simp[results,results58,go_sem,s0,s1,s2,s3,s4',s5]) rfl ?_
   exact .inl ⟨_,_,_,HD12.out,rfl,HF.out.1,HF.out.2.1,HF.out.2.2⟩
  ·have HG:=Oe w3 p c k1 s4 HT10.out.ps.rd HT10.out.sz (Yy HK2.out).hc (by have:=(Yy HK2.out).k32;omega) hl
   have HE:Hid (PrQ w p s pnc w3):=YQ (by rw[HT10.out.dc,Qbe HK2.out hl]) QU HT10.out.ps.ch
   go_wp2_with (go_at_call 103;with_reducible refine HG.mono ?_;rintro x w5 ⟨rfl,rfl⟩)
   exact⟨rfl,HE.out⟩
 have hb1:((k0:Int) == 1)=false:=beq_false_of_ne (by omega)
 have hb2:((k0:Int) == 2)=false:=beq_false_of_ne (by omega)
 have hb3:((k0:Int) == 3)=false:=beq_false_of_ne (by omega)
 obtain⟨e0,e1,e2,e3,e4,e5⟩:=HP7.out.six.cells;rw[Jt (QfL h1 h2 h3)] at HD;have HC:Calls prog 101 #[.agg #[.int .i64 k0,.int .i64 k1,.int .u64 0,.int .u64 size,.slice none 0 0,.slice none 0 0]] W7 fun e w'=>e= .returned (.tuple #[.int .u64 0,.int .i64 150])∧Below W7.heap.size W7 w':=by
  have:=Ym W7 k0 k1 0 size none 0 0 0 [] (.slice none 0 0) (by decide) HZ.out.2.2.1 ⟨rfl,fun h=>absurd h (NB 0),fun j v h=>by cases h⟩ (fun _=>by simp)
  rw[Qae (by omega) (by omega) (by omega)] at this
  exact this
 have HE:Hid (∀w',Below W7.heap.size W7 w'->PrQ w p s pnc w'):=fun w' hb=>YQ (by rw[HD.out,QaJ (Qae (by omega) (by omega) (by omega))]) QU (HP7.out.more HP.out.1 hb).ch
 clear h1 h2 h3 HP7
 go_wp2_with (first
  | (go_at_call 101;with_reducible refine HC.mono ?_;rintro x w1 ⟨rfl,hb⟩)
  | (go_at_call 102;refine(YR _ _ rfl).mono ?_;rintro x w3 ⟨rfl,rfl⟩))
 exact⟨rfl,HE.out _ hb⟩
def Er(w:World)(b:Nat)(e:Int):Prop:=w.heap[b]? = some (.cells #[.int .i64 e] 34 (0,0))
theorem Er.cell{w:World}{b:Nat}{e:Int}(h:Er w b e):w.cell? ⟨b,0,none⟩=some (.int .i64 e):=by rw[cell_of_row w b 0 _ _ (0,0) h];rfl
theorem Er.fz{w:World}{b:Nat}{e:Int}(h:Er w b e):w.frozen? ⟨b,0,none⟩=false:=frozen_of_row w b 0 _ _ h
theorem Er.same{w W:World}{b:Nat}{e:Int}(h:Er w b e)(hb:W.heap[b]? = w.heap[b]?):Er W b e:=hb.trans h
theorem Er.set{w:World}{b:Nat}{e:Int}(h:Er w b e)(e':Int):Er (w.setCell ⟨b,0,none⟩ (.int .i64 e')) b e':=Ln w b 0 _ _ (.int .i64 e') h
theorem QaB(a b:Nat)(u:TypeId)(pv:Value)(older:List PanicEntry)(w:World){x0 x1 x2 x3 x4 x5:Value}{e:Int}(h6:Six w a x0 x1 x2 x3 x4 x5)(he:Er w b e)(hne:a≠b) :
  CallsD prog 57 #[Zv a,Zv b] (.panicking ({ v := .iface u pv,recovered:=false } :: older)) w fun e u' w'=>
   e= .returned (.tuple #[])∧u'= .panicking ({ v := .iface u pv,recovered:=true } :: older)∧w'=(Yb w a (.int .i64 0) (.int .i64 0) (.int .u64 0) (.int .u64 0) (.slice none 0 0) (.slice none 0 0)).setCell ⟨b,0,none⟩ (.int .i64 140):=by
 obtain⟨c0,c1,c2,c3,c4,c5⟩:=h6.cells;have f0:=h6.fz;have g0:=he.cell;have g1:=he.fz;have hne':¬b=a:=fun h=>hne h.symm
 refine callsD_of_wpS func57 rfl fun c₀ cs hu=> ?_
 apply wpS_seq
 apply wpS_region
 simp[wpOpsS,go_sem,recoverD,hu,ntmps57,Exit.thenS];refine wpS_cond (t:=true) (by simp[Act.eval,Array.replicate]) ?_
 simp only[if_true];refine wpS_of_wp ?_
 have ht:(#[Zv a,Zv b]++((Array.replicate 3 undef).setIfInBounds 0 (Value.iface u pv)).setIfInBounds 1 (Value.bool true):Array Value)=#[Zv a,Zv b,Value.iface u pv,Value.bool true,undef]:=rfl;rw[ht];have k6:=h6.put (.int .i64 0) (.int .i64 0) (.int .u64 0) (.int .u64 0) (.slice none 0 0) (.slice none 0 0);have kc:=Yv w a (.int .i64 0) (.int .i64 0) (.int .u64 0) (.int .u64 0) (.slice none 0 0) (.slice none 0 0);have ke:=he.same (kc.block b (by show ¬_=_;exact hne'))
 have k0:=ke.cell;have k1:=ke.fz;unfold Yb at k0 k1 ⊢;clear k6 kc ke h6 he;go_wp2;simp[bodyPostS,results,results57]
theorem Qfr(a b:Nat)(w:World) :
  CallsD prog 57 #[Zv a,Zv b] .returning w fun e u' w'=>e= .returned (.tuple #[])∧u'= .returning∧w'=w:=by
 refine callsD_of_wpS func57 rfl fun c₀ cs hu=> ?_
 apply wpS_seq
 apply wpS_region
 simp[wpOpsS,go_sem,recoverD,hu,ntmps57,Exit.thenS];refine wpS_cond (t:=false) (by simp[Act.eval,Array.replicate]) ?_
 simp only[Bool.false_eq_true,if_false];refine wpS_of_wp (wp_skip ?_)
 cases c₀
 simp_all [bodyPostS,results,results57]
def DecQ(w:World)(s:BA)(e:Ending)(w':World):Prop :=
 (∃P sv dv,dec s.data.toList=some P∧e= .returned (.tuple #[pv6 P.kd P.k P.old P.size sv dv,.int .i64 0])∧Cv.Own w' w.heap.size sv P.S∧Qg w' w.heap.size dv P.D∧Below w.heap.size w w') ∨
  (dec s.data.toList=none∧e= .returned (.tuple #[noP,.int .i64 140])∧Below w.heap.size w w')
structure D2(w W:World):Prop where
 six:Six W w.heap.size (.int .i64 0) (.int .i64 0) (.int .u64 0) (.int .u64 0) (.slice none 0 0) (.slice none 0 0)
 er:Er W (w.heap.size+1) 0
 below:Below w.heap.size w W
theorem D2.next{w W W':World}(h:D2 w W)(hb:∀b,b<w.heap.size+2->W'.heap[b]? = W.heap[b]?)(hw:Below w.heap.size w W'):D2 w W' :=
 ⟨h.six.same (hb _ (by omega)),h.er.same (hb _ (by omega)),hw⟩
theorem Qoh(w:World)(o1 o2:Obj)(h1:o1= .cells #[.int .i64 0,.int .i64 0,.int .u64 0,.int .u64 0,.slice none 0 0,.slice none 0 0] 68)(h2:o2= .cells #[.int .i64 0] 34):D2 w ((w.alloc o1).alloc o2):=by
 subst h1 h2;refine⟨(Jf w _ _ _ _ _ _).next (bal (Lc _ _) _),?_,bal (bal (Lc _ _) _) _⟩
 have:=Lr (w.alloc (.cells #[.int .i64 0,.int .i64 0,.int .u64 0,.int .u64 0,.slice none 0 0,.slice none 0 0] 68)) (.cells #[.int .i64 0] 34);rw[LK] at this;exact this
theorem Qbg(w:World)(s:BA)(hs:s.size<=281474976710656) :
  Calls prog 28 #[.string s] w (DecQ w s):=by
 have hmf:∀(fn:Fn) (first cap:Array Value) (w:World),(Instr.makeFunc fn first cap).run prog w= .ok (.func fn first cap) w:=fun _ _ _ _=>rfl
 have K0:=Qoh w _ _ rfl rfl;obtain⟨W0,hW0⟩:∃W0,(w.alloc (.cells #[.int .i64 0,.int .i64 0,.int .u64 0,.int .u64 0,.slice none 0 0,.slice none 0 0] 68)).alloc (.cells #[.int .i64 0] 34)=W0:=⟨_,rfl⟩;have hz0:W0.heap.size=w.heap.size+2:=by rw[<-hW0];simp
 rw[hW0] at K0;have HW:=Qj0 W0 s;have HP:=Qh7 (W0.alloc (.cells #[.string s,.int .i64 0] 184)) W0.heap.size s (QmU W0 s _) hs;have hsz1:(W0.alloc (.cells #[.string s,.int .i64 0] 184)).heap.size=W0.heap.size+1:=LK _ _;have hbr:=bal (Lc W0.heap.size W0) (.cells #[.string s,.int .i64 0] 184);have HK:Hid (∀w2,Ch W0.heap.size (W0.alloc (.cells #[.string s,.int .i64 0] 184)) w2->D2 w w2):=fun w2 hc=>K0.next (fun b hb=>(hc.block b (by omega) (by omega)).trans (hbr.block b (by omega))) ((K0.below.trans (hbr.mono (by omega))).trans (hc.below.mono (by omega)))
 have HZ:Hid (w.heap.size<=(W0.alloc (.cells #[.string s,.int .i64 0] 184)).heap.size):=(by rw[hsz1];omega:w.heap.size<=(W0.alloc (.cells #[.string s,.int .i64 0] 184)).heap.size)
 clear K0 hz0 hs hbr hsz1;obtain⟨W1,hW1⟩:∃W1,W0.alloc (.cells #[.string s,.int .i64 0] 184)=W1:=⟨_,rfl⟩;rw[hW1] at HW HP HK HZ;clear hW1;obtain⟨q,hq⟩:∃q,W0.heap.size=q:=⟨_,rfl⟩;rw[hq] at HW HP HK;clear hq
 cases hd:dec s.data.toList with
 | none=>
  have HP':Calls prog 58 #[Zv q] W1 fun e w'=>(∃u v,e= .panicked [{ v := .iface u v,recovered:=false }])∧Ch q W1 w':=HP.mono fun e w' h=>by
   rcases h with ⟨P,_,_,h,_⟩|⟨_,h1,h2⟩
   ·rw[hd] at h;cases h
   ·exact⟨h1,h2⟩
  clear HP
  go_enter_defers func28,ntmps28
  go_upto_region 2 with (fail)
  try rw[hW0]
  clear hW0
  go_wp2_with (first
   | (go_at_call 59;with_reducible refine HW.mono ?_;rintro x w1 ⟨rfl,rfl⟩)
   | (go_at_call 58;with_reducible refine HP'.mono ?_;rintro x w2 ⟨⟨u,v,rfl⟩,hc⟩))
  refine leaves_cons (f:=57) (args:=#[Zv w.heap.size,.pointer (some ⟨w.heap.size+1,0,none⟩)]) (by simp) (by simp[go_sem]) ?_
  have K:=HK.out _ hc;refine(QaB _ _ u v [] _ K.six K.er (by omega)).mono ?_
  rintro e u' w'' ⟨rfl,rfl,rfl⟩;have h6:=K.six.put (.int .i64 0) (.int .i64 0) (.int .u64 0) (.int .u64 0) (.slice none 0 0) (.slice none 0 0);have kc:=Yv w2 w.heap.size (.int .i64 0) (.int .i64 0) (.int .u64 0) (.int .u64 0) (.slice none 0 0) (.slice none 0 0);have ke:=(K.er.same (kc.block _ (by show ¬_=_;omega))).set 140
  have hb1:Below w.heap.size w (Yb w2 w.heap.size (.int .i64 0) (.int .i64 0) (.int .u64 0) (.int .u64 0) (.slice none 0 0) (.slice none 0 0)):=K.below.trans (kc.below (by rintro b rfl;exact Lb _))
  have hb2:=hb1.setCell (p:=⟨w.heap.size+1,0,none⟩) (by show w.heap.size<=w.heap.size+1;omega) (.int .i64 140)
  have h6':=h6.same (W:=(Yb w2 w.heap.size (.int .i64 0) (.int .i64 0) (.int .u64 0) (.int .u64 0) (.slice none 0 0) (.slice none 0 0)).setCell ⟨w.heap.size+1,0,none⟩ (.int .i64 140)) (Below.heap_setCell _ _ _ _ (by show w.heap.size≠w.heap.size+1;omega))
  obtain⟨s0,s1,s2,s3,s4,s5⟩:=h6'.cells;have t0:=ke.cell;have HF:Hid (DecQ w s (.returned (.tuple #[noP,.int .i64 140])) ((Yb w2 w.heap.size (.int .i64 0) (.int .i64 0) (.int .u64 0) (.int .u64 0) (.slice none 0 0) (.slice none 0 0)).setCell ⟨w.heap.size+1,0,none⟩ (.int .i64 140))) := .inr ⟨hd,rfl,hb2⟩;generalize (Yb w2 w.heap.size (.int .i64 0) (.int .i64 0) (.int .u64 0) (.int .u64 0) (.slice none 0 0) (.slice none 0 0)).setCell ⟨w.heap.size+1,0,none⟩ (.int .i64 140)=F at *;simp[Leaves,settle,results,results28,go_sem,s0,s1,s2,s3,s4,s5,t0];exact HF.out
 | some P=>
  have HP':Calls prog 58 #[Zv q] W1 fun e w'=> ∃sv dv,e= .returned (pv6 P.kd P.k P.old P.size sv dv)∧Cv.Own w' W1.heap.size sv P.S∧Qg w' W1.heap.size dv P.D∧Ch q W1 w':=HP.mono fun e w' h=>by
   rcases h with ⟨P',sv,dv,h,h2⟩|⟨h,_⟩
   ·rw[hd] at h;cases h;exact⟨sv,dv,h2⟩
   ·rw[hd] at h;cases h
  clear HP;obtain⟨kd,k,old,size,S,D⟩:=P;simp only at HP';have HD:=YF hd;clear hd
  go_enter_defers func28,ntmps28
  go_upto_region 2 with (fail)
  try rw[hW0]
  clear hW0
  go_wp2_with (first
   | (go_at_call 59;with_reducible refine HW.mono ?_;rintro x w1 ⟨rfl,rfl⟩)
   | (go_at_call 58;(with_reducible refine HP'.mono ?_);rintro x w2 ⟨sv,dv,rfl,o1,o2,hc⟩;(obtain⟨ao,m,c,rfl⟩:=Cv.Qs o1);(obtain⟨ao2,m2,c2,rfl⟩:=Cv.Qs o2);(have K:=HK.out _ hc);(obtain⟨e0,e1,e2,e3,e4,e5⟩:=K.six.cells);(have f0:=K.six.fz);(have kc:=Yv w2 w.heap.size (.int .i64 kd) (.int .i64 k) (.int .u64 old) (.int .u64 size) (.slice ao m c) (.slice ao2 m2 c2));(have ke:=K.er.same (kc.block _ (by show ¬_=_;omega)));(have k0:=ke.cell);(have k1:=ke.fz);(unfold Yb at k0 k1);(have HH:Hid (Cv.Own w2 w1.heap.size (.slice ao m c) S∧Qg w2 w1.heap.size (.slice ao2 m2 c2) D∧D2 w w2):=⟨o1,o2,K⟩);clear o1 o2 hc K kc ke))
  refine leaves_cons (f:=57) (args:=#[Zv w.heap.size,.pointer (some ⟨w.heap.size+1,0,none⟩)]) (by simp) (by simp[go_sem]) ?_
  refine(Qfr _ _ _).mono ?_
  rintro e u' w'' ⟨rfl,rfl,rfl⟩;obtain⟨o1,o2,K⟩:=HH.out;have h6:=K.six.put (.int .i64 kd) (.int .i64 k) (.int .u64 old) (.int .u64 size) (.slice ao m c) (.slice ao2 m2 c2);have kc:=Yv w2 w.heap.size (.int .i64 kd) (.int .i64 k) (.int .u64 old) (.int .u64 size) (.slice ao m c) (.slice ao2 m2 c2);have ke':=K.er.same (kc.block _ (by show ¬_=_;omega))
  have ke:=ke'.set 0;have hb1:Below w.heap.size w (Yb w2 w.heap.size (.int .i64 kd) (.int .i64 k) (.int .u64 old) (.int .u64 size) (.slice ao m c) (.slice ao2 m2 c2)):=K.below.trans (kc.below (by rintro b rfl;exact Lb _))
  have hb2:=hb1.setCell (p:=⟨w.heap.size+1,0,none⟩) (by show w.heap.size<=w.heap.size+1;omega) (.int .i64 0)
  have h6':=h6.same (W:=(Yb w2 w.heap.size (.int .i64 kd) (.int .i64 k) (.int .u64 old) (.int .u64 size) (.slice ao m c) (.slice ao2 m2 c2)).setCell ⟨w.heap.size+1,0,none⟩ (.int .i64 0)) (Below.heap_setCell _ _ _ _ (by show w.heap.size≠w.heap.size+1;omega))
  have hne:∀ {e n:Nat} {v:Value} {xs:List Value},w2.ownsRow w1.heap.size e 1 v n xs->e≠68->e≠34->((Yb w2 w.heap.size (.int .i64 kd) (.int .i64 k) (.int .u64 old) (.int .u64 size) (.slice ao m c) (.slice ao2 m2 c2)).setCell ⟨w.heap.size+1,0,none⟩ (.int .i64 0)).ownsRow w.heap.size e 1 v n xs:=fun {e n v xs} ho h1 h2=>by
   refine Qr (ho.mono HZ.out) fun g hg _=> ?_
   have n1:=YH ho K.six h1 g hg;have n2:g≠w.heap.size+1:=by
    rintro rfl
    rcases ho.2 with ⟨rfl,_⟩|⟨g',cap,cur,rfl,_,hh,_⟩
    ·cases hg
    ·cases hg;have:=K.er;rw[Er,hh] at this;injection this with this
     injection this with _ e2 _
     exact h2 e2
   rw[Below.heap_setCell _ _ _ _ (by show g≠w.heap.size+1;exact n2)]
   exact kc.block g n1
  obtain⟨s0,s1,s2,s3,s4,s5⟩:=h6'.cells;have t0:=ke.cell;have HF:Hid (DecQ w s (.returned (.tuple #[pv6 kd k old size (.slice ao m c) (.slice ao2 m2 c2),.int .i64 0])) ((Yb w2 w.heap.size (.int .i64 kd) (.int .i64 k) (.int .u64 old) (.int .u64 size) (.slice ao m c) (.slice ao2 m2 c2)).setCell ⟨w.heap.size+1,0,none⟩ (.int .i64 0))) := .inl ⟨_,_,_,HD.out,rfl,hne o1 (by decide) (by decide),hne o2 (by decide) (by decide),hb2⟩
  unfold Yb at HF s0 s1 s2 s3 s4 s5 t0;simp[Leaves,settle,results,results28,go_sem,s0,s1,s2,s3,s4,s5,t0];exact HF.out
theorem Qeh(w:World)(s:BA)(hs:s.size<=281474976710656)(h:dec s.data.toList=none) :
  Calls prog 28 #[.string s] w fun e w'=>e= .returned (.tuple #[noP,.int .i64 140])∧Below w.heap.size w w':=by
 refine(Qbg w s hs).mono ?_
 rintro e w' (⟨P,_,_,h1,_⟩|⟨_,h2,h3⟩)
 ·rw[h] at h1;cases h1
 ·exact⟨h2,h3⟩
end Go.Proofs.YtoblgjledefdbabGreatDoor
