/- Own work. -/
import Derived.Deep.DeepMakePanics
import Derived.Test.YtdocjikpcbmcgaaGreatDoorQn08
set_option maxRecDepth 100000
set_option maxHeartbeats 1000000
namespace Go.Proofs.YtdocjikpcbmcgaaGreatDoor
open Go.RowKit
attribute [local go_sem ↓] Go.wp_at_zero Go.wp_at_succ
open Go.Proofs.Tryz
section
open Cv (cU RdC)
theorem U8{w:World}{p:Nat}{s:BA}(hr:Rdr w p s 0)(hs:s.size<=9223372036854775807)(h:nmb s.data.toList=none) :
  Calls prog 103 #[.pointer (some ⟨p,0,none⟩)] w fun e w'=>e=pnc∧Ch p w w':=by
 refine(Qb8 w p s hr hs).mono ?_
 rintro e w' (⟨n,s',g1,_⟩|⟨_,g2,g3⟩)
 ·rw[h] at g1;cases g1
 ·exact⟨g2,g3⟩
theorem U9{w:World}{p n:Nat}{s:BA}{r:List UInt8}(hr:Rdr w p s 0)(hs:s.size<=9223372036854775807)(h:nmb s.data.toList=some (n,r)) :
  Calls prog 103 #[.pointer (some ⟨p,0,none⟩)] w fun e w' => ∃s',s'.data.toList=r∧e = .returned (.int .u64 (n:Int))∧Rdr w' p s' 0∧Ch p w w'∧s'.size<=s.size:=by
 refine(Qb8 w p s hr hs).mono ?_
 rintro e w' (⟨n',s',g1,g2⟩|⟨g1,_⟩)
 ·rw[h] at g1;cases g1;exact⟨s',rfl,g2⟩
 ·rw[h] at g1;cases g1
theorem Ch.trans{p:Nat}{w w1 w2:World}(h:Ch p w w1)(h2:Ch p w1 w2):Ch p w w2 :=
 ⟨h.below.trans h2.below,fun q hq hne=>(h2.block q (L5 hq h.below.size) hne).trans (h.block q hq hne)⟩
theorem Ch.low{p:Nat}{w w1 w2:World}(h:Ch p w w1)(hb:Below w.heap.size w1 w2)(hp:p<w.heap.size):Ch p w w2 :=
 ⟨h.below.trans (hb.mono (by omega)),fun q hq hne=>(hb.block q hq).trans (h.block q hq hne)⟩
def pan(e:Ending):Prop := ∃u v,e = .panicked [{ v := .iface u v,recovered:=false }]
theorem Yg:pan pnc:=⟨_,_,rfl⟩
theorem QdY(w:World)(x:Nat):RdC (w.alloc (.cells #[.int .u64 (x:Int)] 28)) (.slice (some ⟨w.heap.size,0,none⟩) 1 1) 1 (cU [x]) :=
 Ql2 (l:=[x]) ⟨rfl,fun _=>rfl,Qu w [.int .u64 (x:Int)] 28⟩ (fun h=>by cases h)
theorem QhY(w:World)(x:Nat) : ∀(j:Nat) u,(cU [x])[j]? = some u->(w.alloc (.cells #[.int .u64 (x:Int)] 28)).cell? ((⟨w.heap.size,0,none⟩:Addr).add j)=some u:=fun j u hu=>by
 rw[Addr.add_mid];exact Qu w [.int .u64 (x:Int)] 28 j u hu
theorem QdQ{l r:List UInt8}{n:Nat}(h:nmb l=some (n,r)):n<18446744073709551616:=(UG h).2
theorem Qix{c x size d:Nat}{l r:List UInt8}(h:nmb l=some (d,r))(hd : ¬x+d<size):Y5 (c+1) x size l=none:=by
 rw[Y5,h];simp only;rw[Le hd]
theorem Qkt{c x size:Nat}{l:List UInt8}(h:nmb l=none):Y5 (c+1) x size l=none:=by rw[Y5,h]
theorem Qiy{c x size d:Nat}{l r:List UInt8}(h:nmb l=some (d,r))(hd:x+d<size):Y5 (c+1) x size l=(Y5 c (x+d+1) size r).map fun a=>((x+d)::a.1,a.2):=by
 rw[Y5,h];simp only;rw[Lm hd]
 cases Y5 c (x+d+1) size r <;> rfl
structure SetS(w:World)(p g c size:Nat)(l0:List UInt8)(wr:World)(j x:Nat)(acc:List Nat)(s:BA):Prop where
 rd:Rdr wr p s 0
 ch:Ch p w wr
 own:wr.ownsRow g 28 1 (.slice (some ⟨g,0,none⟩) j c) j (cU acc)
 jc:j<=c
 hg:w.heap.size<=g
 xs:x<=size
 go:Y5 c 0 size l0=(Y5 (c - j) x size s.data.toList).map fun a=>(acc++a.1,a.2)
 sz:s.size<=9223372036854775807
theorem SetS.read{w wr w1:World}{p g c size j x:Nat}{l0:List UInt8}{acc:List Nat}{s s':BA}{d:Nat}(h:SetS w p g c size l0 wr j x acc s)(hc:Ch p wr w1)(hp:p<w.heap.size)(hn:nmb s.data.toList=some (d,s'.data.toList))(hd:x+d<size)(hj:j<c) :
  w1.ownsRow g 28 1 (.slice (some ⟨g,0,none⟩) j c) j (cU acc)∧Ch p w w1∧Y5 c 0 size l0=(Y5 (c - (j+1)) (x+d+1) size s'.data.toList).map fun a=>((acc++[x+d])++a.1,a.2):=by
 have hg:=h.hg;refine⟨Qi h.own fun b hb _ => ?_,h.ch.trans hc,?_⟩
 ·cases hb;exact hc.block g (h.own.lt g rfl).2 (by omega)
 ·rw[h.go,show c - j=(c - (j+1))+1 by omega,Qiy hn hd]
  cases Y5 (c - (j+1)) (x+d+1) size s'.data.toList <;> simp
theorem QfW : ∃i,prog.info? 28=some i∧i.zero=some (.int .u64 0)∧i.size=1∧i.bytes=8:=by
 obtain⟨i0,h1,h2,h3,h4⟩:=info_parts Cv.Tryz.infoU;exact⟨i0,h1,h2,h3,h4⟩
theorem U7(size:Nat)(l:List UInt8):UX 2 size l=match nmb l with|none=>none|some (c,r)=>if c<=r.length then (match Y5 c 0 size r with|none=>none|some (S,r')=>some (0,S,r')) else none:=rfl
theorem szno{c:Nat}{s:BA}(h : ¬c<=s.data.toList.length) : ¬(c:Int)<=(s.size:Int):=by rw[Qn] at h;omega
theorem QmU{c:Nat}{s:BA}(h:c<=s.data.toList.length):(c:Int)<=(s.size:Int):=by rw[Qn] at h;omega
theorem szw{s:BA}(h:s.size<=281474976710656):IntKind.u64.wrap (s.size:Int)=(s.size:Int):=by rw[IntKind.wrap_u64];omega
def SetQ(w:World)(p size:Nat)(s:BA)(e:Ending)(w':World):Prop :=
 (∃S s' g c,UX 2 size s.data.toList=some (0,S,s'.data.toList)∧e = .returned (.slice (some ⟨g,0,none⟩) S.length c)∧Cv.Own w' w.heap.size (.slice (some ⟨g,0,none⟩) S.length c) S∧Rdr w' p s' 0∧Ch p w w'∧s'.size<=s.size) ∨
   ((∀o S r,UX 2 size s.data.toList=some (o,S,r)->2^40<size)∧pan e∧Ch p w w')
theorem Qme(w:World)(p size:Nat)(s:BA)(hr:Rdr w p s 0)(hs:s.size<=281474976710656)(hsz:size<18446744073709551616) :
  Calls prog 104 #[.pointer (some ⟨p,0,none⟩),.int .u64 (size:Int)] w (SetQ w p size s):=by
 have hp:=hr.lt
 cases hn:nmb s.data.toList with
 | none =>
  have HN:=U8 hr (by omega) hn
  have HQ:Hid (∀w',Ch p w w'->SetQ w p size s pnc w'):=fun w' hc => .inr ⟨fun o S r h=>(by rw[U7,hn] at h;cases h),Yg,hc⟩
  go_enter func104,ntmps104
  go_wp2_with (go_at_call 103;with_reducible refine HN.mono ?_;rintro x w1 ⟨rfl,hc⟩)
  exact⟨rfl,HQ.out _ hc⟩
 | some a =>
  obtain⟨c,r⟩:=a;have HN:=U9 hr (by omega) hn
  have xB:=QdQ hn
  by_cases hcr:c<=r.length
  ·by_cases hbig:c<=35184372088832
   ·obtain⟨i0,i1,i2,i3,i4⟩:=QfW;have HI:Hid (prog.info? 28=some i0∧i0.zero=some (.int .u64 0)∧i0.size=1∧i0.bytes=8):=⟨i1,i2,i3,i4⟩;have HQ:Hid ((∀w',Ch p w w'->Y5 c 0 size r=none -> ∀e,pan e->SetQ w p size s e w') ∧ ∀S s' g w',Y5 c 0 size r=some (S,s'.data.toList)->Cv.Own w' w.heap.size (.slice (some ⟨g,0,none⟩) S.length c) S->Rdr w' p s' 0->Ch p w w'->s'.size<=s.size->SetQ w p size s (.returned (.slice (some ⟨g,0,none⟩) S.length c)) w'):=by
     constructor
     ·intro w' hc hz e he;refine .inr ⟨fun o S r h => ?_,he,hc⟩
      rw[U7,hn] at h;simp only at h;rw[Lm hcr,hz] at h
      cases h
     ·intro S s' g w' h1 h2 h3 h4 h5;refine .inl ⟨S,s',g,c,?_,rfl,h2,h3,h4,h5⟩
      rw[U7,hn];simp only;rw[Lm hcr,h1]
    have HK:Hid (c<=r.length∧s.size<=281474976710656∧c<=35184372088832∧size<18446744073709551616∧p<w.heap.size):=⟨hcr,hs,hbig,hsz,hp⟩;have xE:(c:Int)<=35184372088832:=by omega
    clear hr hs hn hcr hsz hbig xB i1 i2 i3 i4 hp
    go_enter func104,ntmps104
    go_wp2_with (first
     | (go_at_call 103;(with_reducible refine HN.mono ?_;rintro x w1 ⟨s1,rfl,rfl,h1,h2,h3⟩;have HL:=JL w1 p 0 s1 h1;have hf:=QmU HK.out.1;have xC:=szw (Lz h3 HK.out.2.1)))
     | (go_at_call 153;with_reducible refine HL.mono ?_;rintro x w2 ⟨rfl,rfl⟩)
     | (go_at_call 106;refine(YI _ _ rfl).mono ?_;rintro x w3 ⟨rfl,rfl⟩)
     | (at_make;refine wpList_make_own _ rfl _ _ _ rfl w3.heap.size 28 i0 (.int .u64 0) 1 underlying53 HI.out.1 HI.out.2.1 HI.out.2.2.1 .i64 .u64 _ c rfl rfl rfl ?c1 ?c2 (Ld _) ?_))
    case c1=>rw[HI.out.2.2.2];have:=HK.out;omega
    case c2=>have:=HK.out;unfold maxLen;omega
    intro w4 o4 g4;obtain⟨g,hg⟩:=Ze w3.heap.size;rw[hg] at o4;have HS:Hid (SetS w p g c size s1.data.toList w4 0 0 [] s1):=by
     obtain⟨k1,k2,k3,k4,k5⟩:=HK.out;have hb:Zb w3 w4:=(Lb _ _).grown g4 (Ld _) (fun k hk=>by cases hk)
     have hz:=h2.below.size;exact⟨h1.next hb h1.lt,h2.low (hb.mono hz) k5,o4,Ll _,by omega,Ll _,by rw[I9];cases Y5 c 0 size s1.data.toList <;> rfl,by omega⟩
    have HZ:Hid (s1.size<=s.size):=h3;rw[hg];clear h1 h2 h3 hf xC o4 g4 HN HL hg;go_wp2
    go_loopg [6,7,8,9,21] c (fun m l x i8 o9 ix wr => ∃(j y:Nat) (acc:List Nat) (t:BA),m=c - j∧ix = .int .u64 (j:Int)∧x = .int .u64 (y:Int)∧l = .slice (some ⟨g,0,none⟩) j c∧SetS w p g c size s1.data.toList wr j y acc t∧t.size<=s.size)
    case atStart=>go_light;exact⟨0,0,[],s1,rfl,rfl,rfl,rfl,HS.out,HZ.out⟩
    case round =>
     obtain⟨j,y,acc,t,rfl,rfl,rfl,rfl,hS,ht⟩:=hrel;obtain⟨k1,k2,k3,k4,k5⟩:=HK.out;have HT:Hid (SetS w p g c size s1.data.toList wr j y acc t∧t.size<=s.size):=⟨hS,ht⟩;have xI:(0:Int)<=(j:Int):=Lf _
     by_cases hlt:j<c
     ·have xD:(j:Int)<(c:Int):=by omega
      cases hn:nmb t.data.toList with
      | none =>
       have HN:=U8 hS.rd hS.sz hn;have HE:Hid (∀w',Ch p wr w'->SetQ w p size s pnc w'):=fun w' hc=>HQ.out.1 w' (hS.ch.trans hc) (by rw[hS.go,show c - j=(c - (j+1))+1 by omega,Qkt hn];rfl) _ Yg
       clear hS ht k1 k2 k3 k4 k5 hn
       go_wp2_with (go_at_call 103;with_reducible refine HN.mono ?_;rintro x w1 ⟨rfl,hc⟩)
       exact⟨rfl,HE.out _ hc⟩
      | some a =>
       obtain⟨d,r⟩:=a;have HN:=U9 hS.rd hS.sz hn;have xA:=QdQ hn;have hy:=hS.xs
       by_cases hd:y+d<size
       ·have HA:=fun W=>Qgr y d W (by omega)
        have xG:((y+d:Nat):Int)<(size:Int):=by omega
        have HO:Hid (∀w1 s2,Rdr w1 p s2 0->Ch p wr w1->s2.data.toList=r->w1.ownsRow g 28 1 (.slice (some ⟨g,0,none⟩) j c) j (cU acc)∧Ch p w w1∧Y5 c 0 size s1.data.toList=(Y5 (c - (j+1)) (y+d+1) size s2.data.toList).map fun a=>((acc++[y+d])++a.1,a.2)):=fun w1 s2 hr1 hc1 he=>by
         subst he;exact hS.read hc1 k5 hn hd hlt
        have HX:Hid (y+d+1<=size∧y+d<18446744073709551615∧j+1<=c∧t.size<=s.size∧t.size<=9223372036854775807∧w.heap.size<=g∧p<w.heap.size):=⟨by omega,by omega,hlt,ht,hS.sz,hS.hg,k5⟩
        have e1:IntKind.u64.wrap (((y+d:Nat):Int)+1)=((y+d+1:Nat):Int):=by rw[IntKind.wrap_u64];omega
        have e2:IntKind.u64.wrap ((j:Int)+1)=((j+1:Nat):Int):=by rw[IntKind.wrap_u64];omega
        generalize y+d=z at *;clear hS ht k1 k2 k3 k4 k5 hn xA hy hd HS HZ HT
        go_wp2_with (first
         | (go_at_call 103;with_reducible refine HN.mono ?_;rintro x w1 ⟨s2,xH,rfl,q1,q2,q3⟩;replace HO:=Qg (HO.out _ _ q1 q2 xH))
         | (go_at_call 154;with_reducible refine(HA _).mono ?_;rintro x w2 ⟨rfl,rfl⟩)
         | (go_at_call 106;refine(YI _ _ rfl).mono ?_;rintro x w3 ⟨rfl,rfl⟩)
         | (at_builtin;refine wpList_append_fits _ rfl _ _ _ rfl g 28 i0 1 underlying53 HI.out.1 HI.out.2.2.1 g j c (cU acc) rfl (HO.out.1.alloc _) ⟨w3.heap.size,0,none⟩ 1 1 (cU [z]) rfl rfl (QhY w3 z) (Cv.QfF [z]) HX.out.2.2.1 ?_;intro w4 o4 g4))
        go_roundg (c - (j+1))
        case rel =>
         go_light;obtain⟨x1,x2,x3,x4,x5,x6,x7⟩:=HX.out;obtain⟨y1,y2,y3⟩:=HO.out;have hlt:=y1.lt g rfl;have hb:Below w.heap.size w3 w4:=(((Lb _ w3).alloc y2.below.size _)).grown g4 (by simp;have:=y2.below.size;omega) (fun k hk=>by cases hk;omega)
         have xF:Below (p+1) w3 w4:=hb.mono (by omega)
         refine⟨j+1,z+1,acc++[z],s2,rfl,by first|rfl|(simp;done)|(congr 1),by first|rfl|(congr 1),rfl,⟨q1.next xF (by omega),y2.low hb x7,?_,x3,x6,x1,y3,by omega⟩,by omega⟩
         rw[Cv.cU,L8];exact o4
        case measure=>go_light;have:=HX.out.2.2.1;omega
       ·have HE:Hid (∀w',Ch p wr w'->SetQ w p size s pnc w'):=fun w' hc=>HQ.out.1 w' (hS.ch.trans hc) (by rw[hS.go,show c - j=(c - (j+1))+1 by omega,Qix hn hd];rfl) _ Yg
        by_cases ha:y+d<18446744073709551616
        ·have HA:=fun W=>Qgr y d W ha
         have xG : ¬((y+d:Nat):Int)<(size:Int):=by omega
         generalize y+d=z at *;clear hS ht k1 k2 k3 k4 k5 hn xA hy hd ha HS HZ
         go_wp2_with (first
          | (go_at_call 103;with_reducible refine HN.mono ?_;rintro x w1 ⟨s2,rfl,rfl,q1,q2,q3⟩)
          | (go_at_call 154;with_reducible refine(HA _).mono ?_;rintro x w2 ⟨rfl,rfl⟩)
          | (go_at_call 106;refine(Ug _ _ (by first|rfl|exact Lj (by omega))).mono ?_;rintro x w3 ⟨rfl,rfl⟩))
         exact⟨rfl,HE.out _ q2⟩
        ·have HA:=fun W=>QmX y d W (by omega) xA ha
         clear hS ht k1 k2 k3 k4 k5 hn xA hy hd ha HS HZ
         go_wp2_with (first
          | (go_at_call 103;with_reducible refine HN.mono ?_;rintro x w1 ⟨s2,rfl,rfl,q1,q2,q3⟩)
          | (go_at_call 154;with_reducible refine(HA _).mono ?_;rintro x w2 ⟨rfl,rfl⟩)
          | (go_at_call 106;refine(Ug _ _ rfl).mono ?_;rintro x w3 ⟨rfl,rfl⟩))
         exact⟨rfl,HE.out _ q2⟩
     ·obtain rfl:j=c:=by have:=hS.jc;omega
      have xD : ¬(j:Int)<(j:Int):=by omega
      clear hS ht k1 k2 k3 k4 k5 hlt;go_wp2
      go_ret
      obtain⟨hS,ht⟩:=HT.out;have hl:acc.length=j:=by have:=hS.own.1;simpa [cU] using this
      have e:=hS.go;rw[NJ,Y5] at e;simp only[Option.map_some,List.append_nil] at e;have:=HQ.out.2 acc t g wr e (by rw[hl];have o:=hS.own.mono (base':=w.heap.size) hS.hg;rw[Cv.Own,hl];exact o) hS.rd hS.ch ht
      rw[hl] at this;exact this
   ·obtain⟨i0,i1,i2,i3,i4⟩:=QfW;have xJ : ∀W:World,(Instr.makeSlice 53 (.int .i64 0) (.int .u64 (c:Int))).run prog W = .halt (.panic (capPanic prog)) W:=fun W=>run_make_refused W 53 28 i0 underlying53 i1 .i64 .u64 c (by omega) (by have:=(UG hn).1;have h3:=LU List.length this;rw[Qn,Lg] at h3;omega) (.inr (by rw[i4];omega))
    have HQ:Hid (∀w',Ch p w w' -> ∀e,pan e->SetQ w p size s e w'):=fun w' hc e he => .inr ⟨fun o S r' h=>by
     rw[U7,hn] at h;simp only at h;rw[Lm hcr] at h
     cases hz:Y5 c 0 size r with
     | none=>rw[hz] at h;cases h
     | some a =>
      obtain⟨S',r2⟩:=a;obtain⟨z1,z2,z3⟩:=QaB _ _ _ _ _ (Ll _) hz;have:=JY z3;omega,he,hc⟩
    have HK:Hid (c<=r.length∧s.size<=281474976710656):=⟨hcr,hs⟩;clear hr hs hn hcr hsz hbig xB i1 i2 i3 i4 hp
    go_enter func104,ntmps104
    go_wp2_with (first
     | (go_at_call 103;(with_reducible refine HN.mono ?_;rintro x w1 ⟨s1,rfl,rfl,h1,h2,h3⟩;have HL:=JL w1 p 0 s1 h1;have hf:=QmU HK.out.1;have xC:=szw (Lz h3 HK.out.2)))
     | (go_at_call 153;with_reducible refine HL.mono ?_;rintro x w2 ⟨rfl,rfl⟩)
     | (go_at_call 106;refine(YI _ _ rfl).mono ?_;rintro x w3 ⟨rfl,rfl⟩))
    exact⟨rfl,HQ.out _ h2 _ ⟨_,_,rfl⟩⟩
  ·have HQ:Hid (∀w',Ch p w w'->SetQ w p size s pnc w'):=fun w' hc => .inr ⟨fun o S r h=>(by rw[U7,hn] at h;simp only at h;rw[Le hcr] at h;cases h),Yg,hc⟩
   have HK:Hid (¬c<=r.length∧s.size<=281474976710656):=⟨hcr,hs⟩;clear hr hs hn hcr hsz
   go_enter func104,ntmps104
   go_wp2_with (first
    | (go_at_call 103;go_loud (with_reducible refine HN.mono ?_;rintro x w1 ⟨s1,rfl,rfl,h1,h2,h3⟩;have HL:=JL w1 p 0 s1 h1;have hf:=szno HK.out.1;have xC:=szw (Lz h3 HK.out.2)))
    | (go_at_call 153;with_reducible refine HL.mono ?_;rintro x w2 ⟨rfl,rfl⟩)
    | (go_at_call 106;refine(Ug _ _ (Lj (by omega))).mono ?_;rintro x w3 ⟨rfl,rfl⟩))
   exact⟨rfl,HQ.out _ h2⟩
end
theorem Qbu{a b:BA}(h:a.data.toList=b.data.toList):a=b:=by
 obtain⟨⟨l⟩⟩:=a;obtain⟨⟨m⟩⟩:=b;simp only at h;rw[h]
theorem Qgn(w:World)(x:BA) : ∀(j:Nat) u,([x].map Value.string)[j]? = some u->(w.alloc (.cells #[.string x] 9)).cell? ((⟨w.heap.size,0,none⟩:Addr).add j)=some u:=fun j u hu=>by
 rw[Addr.add_mid];exact Qu w [.string x] 9 j u hu
structure DigS(w:World)(p g c k:Nat)(l0:List UInt8)(wr:World)(j:Nat)(acc:LB)(s:BA):Prop where
 rd:Rdr wr p s 0
 ch:Ch p w wr
 own:wr.ownsRow g 9 1 (.slice (some ⟨g,0,none⟩) j c) j (acc.map Value.string)
 jc:j<=c
 hg:w.heap.size<=g
 go:YA c k l0=acc++YA (c - j) k s.data.toList
 sz:(c - j)*k=s.size
theorem QhL{c j k:Nat}(hj:j<c){s:BA}{l0:List UInt8}{acc:LB}(h1:YA c k l0=acc++YA (c - j) k s.data.toList)(h2:(c - j)*k=s.size) :
  k<=s.size∧YA c k l0=(acc++[s.extract 0 k])++YA (c - (j+1)) k (s.extract k s.size).data.toList∧(c - (j+1))*k=(s.extract k s.size).size:=by
 obtain⟨m,hm⟩:=Ze (c - (j+1));have e:c - j=m+1:=by omega
 rw[e,LR,LX] at h2;have h3:=LU List.length (JG s k);rw[Qn,Lv,Qn] at h3;refine⟨by omega,?_,by rw[hm];omega⟩
 rw[h1,e,hm,YA,JG,LH,List.singleton_append]
 congr 2
 apply Qbu
 rw[QeL]
theorem On(w:World)(p c k:Nat)(s:BA)(hr:Rdr w p s 0)(hs:s.size<=281474976710656)(hc:c<=1099511627776)(hk:k<=32)(h : ¬c*k=s.data.toList.length) :
  Calls prog 107 #[.pointer (some ⟨p,0,none⟩),.int .u64 (c:Int),.int .i64 (k:Int)] w fun e w'=>e=pnc∧w'=w:=by
 have HL:=JL w p 0 s hr;rw[Qn] at h;have hm:c*k<=1099511627776*32:=Wt hc hk;have e1:IntKind.u64.wrap (k:Int)=(k:Int):=by rw[IntKind.wrap_u64];omega
 have e2:IntKind.u64.wrap ((c:Int)*(k:Int))=((c*k:Nat):Int):=by rw[IntKind.wrap_u64,<-Id];omega
 have e3:=szw hs;have e4:(((c*k:Nat):Int) == (s.size:Int))=false:=beq_false_of_ne (by omega)
 generalize c*k=q at *;clear hr hs hc hk h hm
 go_enter func107,ntmps107
 go_wp2_with (first
  | (go_at_call 153;with_reducible refine HL.mono ?_;rintro x w2 ⟨rfl,rfl⟩)
  | (go_at_call 106;refine(Ug _ _ (by first|rfl|exact e4|exact Lj (by omega))).mono ?_;rintro x w3 ⟨rfl,rfl⟩))
 exact⟨rfl,rfl,rfl⟩
theorem Oo(w:World)(p c k:Nat)(s:BA)(hr:Rdr w p s 0)(hs:s.size<=281474976710656)(hc:c<=1099511627776)(hk:k<=32)(h:c*k=s.data.toList.length) :
  Calls prog 107 #[.pointer (some ⟨p,0,none⟩),.int .u64 (c:Int),.int .i64 (k:Int)] w fun e w' => ∃g,e = .returned (.slice (some ⟨g,0,none⟩) c c)∧Qk w' w.heap.size (.slice (some ⟨g,0,none⟩) c c) (YA c k s.data.toList)∧Ch p w w' ∧ ∃t,Rdr w' p t 0:=by
 have HL:=JL w p 0 s hr;rw[Qn] at h;have hm:c*k<=1099511627776*32:=Wt hc hk;obtain⟨i0,i1,i2,i3,i4⟩:=info_parts Tryz.infoS;have HI:Hid (prog.info? 9=some i0∧i0.zero=some (.string ByteArray.empty)∧i0.size=1∧i0.bytes=16):=⟨i1,i2,i3,i4⟩;have e1:IntKind.u64.wrap (k:Int)=(k:Int):=by rw[IntKind.wrap_u64];omega
 have e2:IntKind.u64.wrap ((c:Int)*(k:Int))=(s.size:Int):=by rw[IntKind.wrap_u64,<-Id];omega
 have e3:=szw hs;have HK:Hid (Rdr w p s 0∧s.size<=281474976710656∧c<=1099511627776∧k<=32∧c*k=s.size∧p<w.heap.size):=⟨hr,hs,hc,hk,h,hr.lt⟩;have xD:(c:Int)<=1099511627776:=by omega
 clear hr hs hc hk h hm i1 i2 i3 i4
 go_enter func107,ntmps107
 go_wp2_with (first
  | (go_at_call 153;with_reducible refine HL.mono ?_;rintro x w2 ⟨rfl,rfl⟩)
  | (go_at_call 106;refine(YI _ _ rfl).mono ?_;rintro x w3 ⟨rfl,rfl⟩)
  | (at_make;refine wpList_make_own _ rfl _ _ _ rfl w3.heap.size 9 i0 (.string ByteArray.empty) 1 underlying22 HI.out.1 HI.out.2.1 HI.out.2.2.1 .i64 .u64 _ c rfl rfl rfl ?c1 ?c2 (Ld _) ?_))
 case c1=>rw[HI.out.2.2.2];have:=HK.out;omega
 case c2=>have:=HK.out;unfold maxLen;omega
 intro w4 o4 g4;obtain⟨g,hg⟩:=Ze w3.heap.size;rw[hg] at o4;have HS:Hid (DigS w3 p g c k s.data.toList w4 0 [] s):=by
  obtain⟨k1,k2,k3,k4,k5,k6⟩:=HK.out;have hb:Zb w3 w4:=(Lb _ _).grown g4 (Ld _) (fun k hk=>by cases hk)
  exact⟨k1.next hb k6,(Ch.refl p w3).low hb k6,o4,Ll _,by omega,by simp,by simpa using k5⟩
 rw[hg];clear o4 g4 HL hg e1 e2 e3;go_wp2
 go_loopg [7,8,9,22] c (fun m l d8 e9 ix wr => ∃(j:Nat) (acc:LB) (t:BA),m=c - j∧ix = .int .u64 (j:Int)∧l = .slice (some ⟨g,0,none⟩) j c∧DigS w3 p g c k s.data.toList wr j acc t)
 case atStart=>go_light;exact⟨0,[],s,rfl,rfl,rfl,HS.out⟩
 case round =>
  obtain⟨j,acc,t,rfl,rfl,rfl,hS⟩:=hrel;obtain⟨k1,k2,k3,k4,k5,k6⟩:=HK.out;have HT:Hid (DigS w3 p g c k s.data.toList wr j acc t):=hS;have xE:(0:Int)<=(j:Int):=Lf _
  by_cases hlt:j<c
  ·have xA:(j:Int)<(c:Int):=by omega
   obtain⟨n1,n2,n3⟩:=QhL hlt hS.go hS.sz;have HR:=Qac wr p 0 t k hS.rd;have xB:tkC t 0 (k:Int)=(t.extract 0 k,0,t.extract k t.size):=by rw[tkC,Le (by simp),Le (by omega)];rfl
   rw[xB] at HR;have e2:IntKind.u64.wrap ((j:Int)+1)=((j+1:Nat):Int):=by rw[IntKind.wrap_u64];omega
   have HX:Hid (j+1<=c∧w3.heap.size<=g∧p<w3.heap.size):=⟨hlt,hS.hg,k6⟩;generalize t.extract 0 k=d at *;generalize t.extract k t.size=t2 at *;have HN:Hid (YA c k s.data.toList=(acc++[d])++YA (c - (j+1)) k t2.data.toList∧(c - (j+1))*k=t2.size):=⟨n2,n3⟩;have HO:Hid (∀w1,Ch p wr w1->w1.ownsRow g 9 1 (.slice (some ⟨g,0,none⟩) j c) j (acc.map Value.string)∧Ch p w3 w1):=fun w1 hc1=>by
    refine⟨Qi hS.own fun b hb _ => ?_,hS.ch.trans hc1⟩
    cases hb;exact hc1.block g (hS.own.lt g rfl).2 (by have:=hS.hg;omega)
   clear hS k1 k2 k3 k4 k5 k6 n1 n2 n3 xB HS HT
   go_wp2_with (first
    | (go_at_call 151;with_reducible refine HR.mono ?_;rintro x w1 ⟨rfl,q1,q2⟩;replace HO:=Qg (HO.out _ q2))
    | (go_at_call 106;refine(YI _ _ rfl).mono ?_;rintro x w5 ⟨rfl,rfl⟩)
    | (at_builtin;refine wpList_append_fits _ rfl _ _ _ rfl g 9 i0 1 underlying22 HI.out.1 HI.out.2.2.1 g j c (acc.map Value.string) rfl (HO.out.1.alloc _) ⟨w5.heap.size,0,none⟩ 1 1 ([d].map Value.string) rfl rfl (Qgn w5 d) (by intro u hu;obtain⟨y,_,rfl⟩:=List.mem_map.1 hu;rfl) HX.out.1 ?_;intro w4 o4 g4))
   go_roundg (c - (j+1))
   case rel =>
    go_light;obtain⟨x3,x6,x7⟩:=HX.out;obtain⟨y1,y2⟩:=HO.out;have hlt:=y1.lt g rfl;have hb:Below w3.heap.size w5 w4:=(((Lb _ w5).alloc y2.below.size _)).grown g4 (by simp;have:=y2.below.size;omega) (fun k hk=>by cases hk;omega)
    have xC:Below (p+1) w5 w4:=hb.mono (by omega)
    refine⟨j+1,acc++[d],t2,rfl,by first|rfl|(congr 1),rfl,⟨q1.next xC (by omega),y2.low hb x7,?_,x3,x6,HN.out.1,HN.out.2⟩⟩
    rw[L8];exact o4
   case measure=>go_light;have:=HX.out.1;omega
  ·obtain rfl:j=c:=by have:=hS.jc;omega
   have xA : ¬(j:Int)<(j:Int):=by omega
   clear hS k1 k2 k3 k4 k5 k6 hlt;go_wp2
   go_ret
   have hS:=HT.out;have hl:acc.length=j:=by have:=hS.own.1;simpa using this
   have e:=hS.go;rw[NJ,YA,Na] at e;refine⟨g,rfl,?_,hS.ch,_,hS.rd⟩
   rw[e,Qk,hl];exact hS.own.mono hS.hg
section
open Cv (rst cov QR)
abbrev pv6(kd k:Int)(old size:Nat)(s d:Value):Value := .agg #[.int .i64 kd,.int .i64 k,.int .u64 (old:Int),.int .u64 (size:Int),s,d]
theorem Yk(w:World)(a b c d e f:Value) : ∃W,w.alloc (.cells #[a,b,c,d,e,f] 55)=W∧Six W w.heap.size a b c d e f∧Zb w W∧W.heap.size=w.heap.size+1 :=
 ⟨_,rfl,Q8 w a b c d e f,bal (Lb _ _) _,by simp⟩
theorem QmQ{w:World}{ao:OA}{b off len:Nat}{l:List Nat}(h:RdU w ao b off len l):Cv.Rd w ao b off len l:=⟨h.hl,h.ptr,fun _ hj=>h.at hj⟩
theorem Qop(a b:Nat)(ha:a<=100)(hb:b<=100):wrap64 ((a:Int)+(b:Int))=(a:Int)+(b:Int):=by unfold wrap64;omega
theorem Qog(a:Nat)(ha:a<=100):wrap64 (a:Int)=(a:Int):=by unfold wrap64;omega
theorem OV{w:World}{B e size n m c:Nat}{ao:OA}{xs:List Value}(h:w.ownsRow B e size (.slice ao m c) n xs):m=n:=by
 rcases h.2 with ⟨h,h0⟩|⟨g,cap,cur,h,_⟩
 ·cases h;omega
 ·cases h;rfl
section
variable (w:World) (kd k:Int) (old size:Nat) (sa:OA) (sb so sc:Nat) (S:List Nat) (d:Value)
theorem Qi4(rs:RdU w sa sb so S.length S)(h : ¬(old=0∧S.length=1∧S.getD 0 0<size)) :
  Zr 155 #[pv6 kd k old size (.slice sa S.length sc) d] w (.tuple #[.int .u64 0,.int .i64 150]):=by
 by_cases h1:old=0
 ·subst h1
  by_cases h2:S.length=1
  ·have h3 : ¬S.getD 0 0<size:=fun h3=>h ⟨rfl,h2,h3⟩
   have hp:=rs.ptr (by omega)
   subst hp;obtain⟨W,hW,h6,hb,hz⟩:=Yk w (.int .i64 kd) (.int .i64 k) (.int .u64 0) (.int .u64 (size:Int)) (.slice (some ⟨sb,so,none⟩) 1 sc) d;obtain⟨e0,e1,e2,e3,e4,e5⟩:=h6.cells;have HB:Hid (Zb w W):=hb;have hc:=(rs.next hb).at (j:=0) (by omega)
   rw[Ix] at hc;generalize S.getD 0 0=i at *;have xC:decide ((size:Int)<=(i:Int))=true:=Ln (by omega)
   have xD:size<=i:=by omega
   rw[h2];clear rs h h2 h3 h6 hb
   go_enter func155,ntmps155
   go_upto_region 1 with (fail)
   try rw[hW]
   clear hW
   go_quiet (fail)
   go_wp2
   go_ret2
   exact⟨rfl,Qd HB.out _⟩
  ·have xB : ¬(S.length:Int)=1:=by omega
   generalize S.length=m at *;obtain⟨W,hW,h6,hb,hz⟩:=Yk w (.int .i64 kd) (.int .i64 k) (.int .u64 0) (.int .u64 (size:Int)) (.slice sa m sc) d;obtain⟨e0,e1,e2,e3,e4,e5⟩:=h6.cells;have HB:Hid (Zb w W):=hb;clear rs h h2 h6 hb
   go_enter func155,ntmps155
   go_upto_region 1 with (fail)
   try rw[hW]
   clear hW
   go_quiet (fail)
   go_wp2
   go_ret2
   exact⟨rfl,Qd HB.out _⟩
 ·have xA:((old:Int) != 0)=true:=bne_iff_ne.2 (by omega)
  obtain⟨W,hW,h6,hb,hz⟩:=Yk w (.int .i64 kd) (.int .i64 k) (.int .u64 (old:Int)) (.int .u64 (size:Int)) (.slice sa S.length sc) d;obtain⟨e0,e1,e2,e3,e4,e5⟩:=h6.cells;have HB:Hid (Zb w W):=hb;clear rs h h6 hb h1
  go_enter func155,ntmps155
  go_upto_region 1 with (fail)
  try rw[hW]
  clear hW
  go_quiet (fail)
  go_wp2
  go_ret2
  exact⟨rfl,Qd HB.out _⟩
theorem QhC(hold:old<18446744073709551616)(rs:RdU w sa sb so S.length S)(hm:S.length<=17592186044416)(h : ¬(old=0∧QR size S=0)) :
  Zr 156 #[pv6 kd k old size (.slice sa S.length sc) d] w (.tuple #[.int .u64 0,.int .i64 150]):=by
 obtain⟨W,hW,h6,hb,hz⟩:=Yk w (.int .i64 kd) (.int .i64 k) (.int .u64 (old:Int)) (.int .u64 (size:Int)) (.slice sa S.length sc) d;obtain⟨e0,e1,e2,e3,e4,e5⟩:=h6.cells;have HC:=Cv.Ua size W sa sb so S.length sc S (QmQ (rs.next hb)) hm;have HB:Hid (∀w',Zb W w'->Zb w w'∧w'.cell? ⟨w.heap.size,2,none⟩=some (.int .u64 (old:Int))):=fun w' hb'=>⟨Qa hb hb',(h6.next hb').cells.2.2.1⟩
 have HE:Hid (¬(old=0∧QR size S=0)∧old<18446744073709551616):=⟨h,hold⟩;clear rs h h6 hb hm hold;generalize QR size S=er at *;generalize (Cv.rstS size S).length=cc at *;generalize S.length=m at *
 by_cases h1:er=0
 ·subst h1;have h2:((old:Int) != 0)=true:=bne_iff_ne.2 (by have:=HE.out;omega)
  go_enter func156,ntmps156
  go_wp2_with (go_at_call 166;(try rw[hW]);with_reducible refine HC.mono ?_;rintro x w1 ⟨rfl,xA⟩;obtain⟨q1,q2⟩:=HB.out _ xA)
  go_ret2
  exact⟨rfl,q1⟩
 ·have h2:((er:Int) != 0)=true:=bne_iff_ne.2 (by omega)
  go_enter func156,ntmps156
  go_wp2_with (go_at_call 166;(try rw[hW]);with_reducible refine HC.mono ?_;rintro x w1 ⟨rfl,xA⟩;obtain⟨q1,q2⟩:=HB.out _ xA)
  go_ret2
  exact⟨rfl,q1⟩
theorem QfJ(rs:RdU w sa sb so S.length S)(hm:S.length<=17592186044416)(h:QR size S=0) :
  Zr 156 #[pv6 kd k 0 size (.slice sa S.length sc) d] w (.tuple #[.int .u64 ((rst 0 size S).length:Nat),.int .i64 0]):=by
 obtain⟨W,hW,h6,hb,hz⟩:=Yk w (.int .i64 kd) (.int .i64 k) (.int .u64 0) (.int .u64 (size:Int)) (.slice sa S.length sc) d;obtain⟨e0,e1,e2,e3,e4,e5⟩:=h6.cells;have HC:=Cv.QeI size W sa sb so S.length sc S (QmQ (rs.next hb)) hm h;have HB:Hid (∀w',Zb W w'->Zb w w'∧w'.cell? ⟨w.heap.size,2,none⟩=some (.int .u64 0)):=fun w' hb'=>⟨Qa hb hb',(h6.next hb').cells.2.2.1⟩
 clear rs h h6 hb hm;generalize (rst 0 size S).length=cc at *;generalize S.length=m at *
 go_enter func156,ntmps156
 go_wp2_with (go_at_call 166;(try rw[hW]);with_reducible refine HC.mono ?_;rintro x w1 ⟨rfl,xA⟩;obtain⟨q1,q2⟩:=HB.out _ xA)
 go_ret2
 exact⟨rfl,q1⟩
theorem Qlb(hn:size<=2^40)(hS:S.length<=17592186044416)(h : ¬(old<=size∧S.length=0)) :
  Zr 157 #[pv6 kd k old size (.slice sa S.length sc) d] w (.tuple #[.int .u64 0,.int .i64 150]):=by
 obtain⟨W,hW,h6,hb,hz⟩:=Yk w (.int .i64 kd) (.int .i64 k) (.int .u64 (old:Int)) (.int .u64 (size:Int)) (.slice sa S.length sc) d;obtain⟨e0,e1,e2,e3,e4,e5⟩:=h6.cells;have HC:=Cv.Qc7 old size size W;have HB:Hid (∀w',Zb W w'->Zb w w'∧w'.cell? ⟨w.heap.size,4,none⟩=some (.slice sa S.length sc)):=fun w' hb'=>⟨Qa hb hb',(h6.next hb').cells.2.2.2.2.1⟩
 have he:Cv.UV old size size=0↔old<=size:=by
  unfold Cv.UV;rw[Le (by omega),Le (by omega)]
  split <;> omega
 have HE:Hid (¬(Cv.UV old size size=0∧S.length=0)∧S.length<=17592186044416):=⟨by rw[he];exact h,hS⟩
 clear h h6 hb he hn hS;generalize Cv.UV old size size=er at *;generalize Cv.zl (Cv.covR old size size)=cc at *;generalize S.length=m at *
 by_cases h1:er=0
 ·subst h1;have h2:((m:Int) != 0)=true:=bne_iff_ne.2 (by have:=HE.out;omega)
  go_enter func157,ntmps157
  go_wp2_with (go_at_call 110;(try rw[hW]);with_reducible refine HC.mono ?_;rintro x w1 ⟨v,rfl,ho,xA⟩;obtain⟨q1,q2⟩:=HB.out _ xA)
  go_ret2
  exact⟨rfl,q1⟩
 ·have h2:((er:Int) != 0)=true:=bne_iff_ne.2 (by omega)
  go_enter func157,ntmps157
  go_wp2_with (go_at_call 110;(try rw[hW]);with_reducible refine HC.mono ?_;rintro x w1 ⟨v,rfl,ho,xA⟩;obtain⟨q1,q2⟩:=HB.out _ xA)
  go_ret2
  exact⟨rfl,q1⟩
theorem QiZ(hn:size<=2^40)(h1:old<=size) :
  Zr 157 #[pv6 kd k old size (.slice sa 0 sc) d] w (.tuple #[.int .u64 (((cov 0 old).length+(cov old size).length:Nat):Int),.int .i64 0]):=by
 obtain⟨W,hW,h6,hb,hz⟩:=Yk w (.int .i64 kd) (.int .i64 k) (.int .u64 (old:Int)) (.int .u64 (size:Int)) (.slice sa 0 sc) d;obtain⟨e0,e1,e2,e3,e4,e5⟩:=h6.cells;have HC:=Cv.Qfa old size size W hn (Ld _) h1;have HB:Hid (∀w',Zb W w'->Zb w w'∧w'.cell? ⟨w.heap.size,4,none⟩=some (.slice sa 0 sc)∧w'.cell? ⟨w.heap.size,2,none⟩=some (.int .u64 (old:Int))):=fun w' hb'=>⟨Qa hb hb',(h6.next hb').cells.2.2.2.2.1,(h6.next hb').cells.2.2.1⟩
 have HO:=fun W'=>Pl.Qe3 old W' (by omega)
 have xB:=Cv.QbE old (by omega)
 have xE:=Cv.OH old size h1 hn;have xF:=Cv.QcU old (by omega)
 have xC:(Cv.zl (cov old size)).length=(cov old size).length:=Cv.QC _;rw[<-xB] at HO;generalize (cov 0 old).length=a at *;generalize Cv.zl (cov old size)=Z at *;generalize (cov old size).length=b at *;obtain⟨c,hc⟩:=Ze (a+b);rw[hc];have xG:wrap64 ((a:Int)+(b:Int))=(c:Int):=by unfold wrap64;omega
 have es:IntKind.u64.wrap (c:Int)=(c:Int):=by rw[IntKind.wrap_u64];omega
 have ha:(a:Int)<=40:=by omega
 have xH:(b:Int)<=80:=by omega
 have HZ:Hid (Z.length=b):=xC;have xD:Hid ((a:Int)+(b:Int)=(c:Int)):=(by omega:(a:Int)+(b:Int)=(c:Int))
 clear h6 hb hn h1 xB xE xF hc xC
 go_enter func157,ntmps157
 go_upto_region 4 with (go_at_call 110;(try rw[hW]);with_reducible refine HC.mono ?_;rintro x w1 ⟨v,rfl,ho,xA⟩;obtain⟨q1,q2,q3⟩:=HB.out _ xA;obtain⟨ao,m,cp,rfl⟩:=Cv.Qj ho;obtain rfl:m=b:=by(have h:=OV ho;rw[HZ.out] at h;exact h))
 clear ho xA;have HQ:=Qg q1;clear q1
 go_wp2_with (go_at_call 80;with_reducible refine(HO _).mono ?_;rintro x w2 ⟨rfl,rfl⟩)
 go_ret2
 refine⟨?_,HQ.out⟩
 show Ending.returned (.tuple #[.int .u64 ((a:Int)+(m:Int)),.int .i64 0])=_
 rw[xD.out]
end
section
variable (w:World) (kd k:Int) (old size:Nat) (sa:OA) (sb so sc:Nat) (S:List Nat) (d:Value)
theorem QhH(hn:size<=2^40)(rs:RdU w sa sb so S.length S)(h2:S.length=1)(h3:S.getD 0 0<size) :
  Zr 155 #[pv6 kd k 0 size (.slice sa S.length sc) d] w (.tuple #[.int .u64 ((rst 0 size S).length:Nat),.int .i64 0]):=by
 obtain⟨i,rfl⟩:=List.length_eq_one_iff.1 h2;have hp:=rs.ptr (by simp)
 subst hp;rw[show[i].getD 0 0=i from rfl] at h3
 obtain⟨H,g1,g2,g3,g4⟩:=Qj2 hn h3;obtain⟨W,hW,h6,hb,hz⟩:=Yk w (.int .i64 kd) (.int .i64 k) (.int .u64 0) (.int .u64 (size:Int)) (.slice (some ⟨sb,so,none⟩) 1 sc) d;obtain⟨e0,e1,e2,e3,e4,e5⟩:=h6.cells;have HB:Hid (Zb w W):=hb;have hc:W.cell? ⟨sb,so,none⟩=some (.int .u64 (i:Int)):=by
  have:=(rs.next hb).at (j:=0) (by simp)
  rw[Ix] at this;exact this
 have hx:=u64_xor_nat size i (by omega) (by omega)
 have xG:(2:Nat)^(H+1)<=2^41:=L7 (by decide) (by omega)
 have HL:=fun W'=>Qnt (size ^^^ i) H W' (by omega) g2 g3
 clear xG g2 g3;have HO:=fun W'=>Pl.Qe3 size W' (by omega)
 have ho:Pl.Ub 64 size<=64:=Pl.QlL 64 size;obtain⟨c,xD⟩:=Ze ((rst 0 size [i]).length);rw[xD] at g1 ⊢;have xI:0<Pl.Ub 64 size:=by
  rw[<-Cv.QbE size hn]
  cases hz:cov 0 size with
  | nil =>
   have ht:=Cv.J0 0 size (Ll _) hn;rw[hz] at ht;exact absurd ⟨Ll _,h3⟩ (ht.2 i (Ll _) h3)
  | cons b r=>simp
 generalize Pl.Ub 64 size=q at *;have xK:decide ((size:Int)<=(i:Int))=false:=Lj (by omega)
 have xL : ¬size<=i:=by omega
 obtain⟨q',rfl⟩ : ∃q',q=q'+1:=⟨q - 1,by omega⟩
 have eq:((q'+1:Nat):Int) - 1=(q':Int):=by omega
 have xN:(q':Int)<=64:=by omega
 have xM:(H:Int)<=40:=by omega
 have xB:q'<=100:=by omega
 have xH:c<=1000∧H+q'=c:=by omega
 have xF:Hid ((H:Int)+(q':Int)=(c:Int)):=(by omega:(H:Int)+(q':Int)=(c:Int))
 have xC:H<=100:=by omega
 have ew:=Qog q' xB;have xJ:=Qop H q' xC xB;clear xB xH g1 xC;have xE:Hid (∀n,Six (W.drewN n) w.heap.size (.int .i64 kd) (.int .i64 k) (.int .u64 0) (.int .u64 (size:Int)) (.slice (some ⟨sb,so,none⟩) 1 sc) d∧(W.drewN n).cell? ⟨sb,so,none⟩=some (.int .u64 (i:Int))∧Zb w (W.drewN n)):=fun n=>⟨h6.next (Qd (Lb _ _) n),((Qd (Lb W.heap.size W) n).cell (Lh W _ hc)).trans hc,Qd hb n⟩
 clear rs hn h2 h3 g4 h6 hb ho xD xI
 go_enter func155,ntmps155
 go_upto_region 1 with (fail)
 try rw[hW]
 clear hW
 go_quiet (fail)
 go_upto_region 3 with (fail)
 have k0:=xE.out nq;obtain⟨W2,xA⟩:=Ze (W.drewN nq)
 try rw[xA]
 rw[xA] at k0;clear xA e0 e1 e2 e3 e4 e5 hc;obtain⟨k0,hc,HW⟩:=k0;obtain⟨e0,e1,e2,e3,e4,e5⟩:=k0.cells;have HW:=Qg HW
 go_quiet ((go_at_call 179;refine Calls.quiet_of_same (HL _)))
 go_wp2_with (go_at_call 80;with_reducible refine(HO _).mono ?_;rintro x w2 ⟨rfl,rfl⟩)
 go_ret2
 refine⟨?_,Qd HW.out _⟩
 show Ending.returned (.tuple #[.int .u64 ((H:Int)+(q':Int)),.int .i64 0])=_
 rw[xF.out]
end
def cV:Option Nat->Value
 | some c => .tuple #[.int .u64 (c:Int),.int .i64 0]
 | none => .tuple #[.int .u64 0,.int .i64 150]
theorem Qlj{size i:Nat}(hn:size<=2^40):QR size [i]=0↔i<size :=
 ⟨fun h=>by have:=(Cv.QJ h).2.2.1;simpa using this,fun h=>Cv.QcO ⟨Ll _,h⟩ (by simp) hn⟩
theorem QeG{k:Int}{old size:Nat}{S:List Nat}(hk:1<=k∧k<=32∧size<=2^40):cnt 1 k old size S=if old=0∧S.length=1∧S.getD 0 0<size then some (rst 0 size S).length else none:=by
 rw[cnt,Lm hk,Lm rfl]
 by_cases h1:S.length=1
 ·obtain⟨i,rfl⟩:=List.length_eq_one_iff.1 h1;have:=Qlj (i:=i) hk.2.2;simp only[this]
  rfl
 ·rw[Le (by rintro⟨_,h,_⟩;exact h1 h),Le (by rintro⟨_,h,_⟩;exact h1 h)]
theorem Qap{k:Int}{old size:Nat}{S:List Nat}(hk:1<=k∧k<=32∧size<=2^40):cnt 2 k old size S=if old=0∧QR size S=0 then some (rst 0 size S).length else none:=by
 rw[cnt,Lm hk,Le (by decide),Lm rfl]
theorem OG{k:Int}{old size:Nat}{S:List Nat}(hk:1<=k∧k<=32∧size<=2^40):cnt 3 k old size S=if old<=size∧S=[] then some ((cov 0 old).length+(cov old size).length) else none:=by
 rw[cnt,Lm hk,Le (by decide),Le (by decide),Lm rfl]
theorem Qdw{kd k:Int}{old size:Nat}{S:List Nat}(h : ¬(1<=k∧k<=32∧size<=2^40)):cnt kd k old size S=none:=by rw[cnt,Le h]
theorem JZ{kd k:Int}{old size:Nat}{S:List Nat}(h1:kd≠1)(h2:kd≠2)(h3:kd≠3):cnt kd k old size S=none:=by
 rw[cnt,Le h1,Le h2,Le h3]
 split <;> rfl
section
variable (w:World) (kd k:Int) (old size:Nat) (sa:OA) (sb so sc:Nat) (S:List Nat) (d:Value)
theorem Ua(hold:old<18446744073709551616)(hsz:size<18446744073709551616)(rs:RdU w sa sb so S.length S)(hm0:size<=2^40->S.length<=17592186044416) :
  Zr 105 #[pv6 kd k old size (.slice sa S.length sc) d] w (cV (cnt kd k old size S)):=by
 obtain⟨W,hW,h6,hb,hz⟩:=Yk w (.int .i64 kd) (.int .i64 k) (.int .u64 (old:Int)) (.int .u64 (size:Int)) (.slice sa S.length sc) d;obtain⟨e0,e1,e2,e3,e4,e5⟩:=h6.cells;have HB:Hid (∀w',Zb W w'->Zb w w'):=fun w' hb'=>Qa hb hb'
 have xE:Hid (Zb w W):=hb;have xA:=rs.next hb
 by_cases h0:1<=k∧k<=32∧size<=2^40
 ·have hm:=hm0 h0.2.2;clear hm0;have xH : ¬k<1:=by omega
  have xI : ¬32<k:=by omega
  have xJ : ¬(1099511627776:Int)<(size:Int):=by omega
  by_cases h1:kd=1
  ·subst h1;rw[QeG h0]
   by_cases hc:old=0∧S.length=1∧S.getD 0 0<size
   ·rw[Lm hc];obtain⟨rfl,xC,xG⟩:=hc;have HC:Zr 155 #[.agg #[.int .i64 1,.int .i64 k,.int .u64 0,.int .u64 (size:Int),.slice sa S.length sc,d]] W (.tuple #[.int .u64 ((rst 0 size S).length:Nat),.int .i64 0]):=QhH W 1 k size sa sb so sc S d h0.2.2 xA xC xG;have xD:((0:Nat):Int)=0:=rfl;rw[xD] at hW e2;clear xD;generalize (rst 0 size S).length=cc at *;generalize S.length=m at *;clear rs xA h6 hb hm h0 hold hsz xC xG
    go_enter func105,ntmps105
    go_wp2_with (go_at_call 155;with_reducible refine HC.mono ?_;rintro x w1 ⟨rfl,xB⟩)
    go_ret2
    exact⟨rfl,HB.out _ xB⟩
   ·rw[Le hc];have HC:=Qi4 W 1 k old size sa sb so sc S d xA hc;generalize S.length=m at *;clear rs xA h6 hb hm h0 hold hsz hc
    go_enter func105,ntmps105
    go_wp2_with (go_at_call 155;with_reducible refine HC.mono ?_;rintro x w1 ⟨rfl,xB⟩)
    go_ret2
    exact⟨rfl,HB.out _ xB⟩
  ·by_cases h2:kd=2
   ·subst h2;rw[Qap h0]
    by_cases hc:old=0∧QR size S=0
    ·rw[Lm hc];obtain⟨rfl,xC⟩:=hc;have HC:Zr 156 #[.agg #[.int .i64 2,.int .i64 k,.int .u64 0,.int .u64 (size:Int),.slice sa S.length sc,d]] W (.tuple #[.int .u64 ((rst 0 size S).length:Nat),.int .i64 0]):=QfJ W 2 k size sa sb so sc S d xA hm xC;have xD:((0:Nat):Int)=0:=rfl;rw[xD] at hW e2;clear xD;generalize (rst 0 size S).length=cc at *;generalize S.length=m at *;clear rs xA h6 hb hm h0 hold hsz xC h1
     go_enter func105,ntmps105
     go_wp2_with (go_at_call 156;with_reducible refine HC.mono ?_;rintro x w1 ⟨rfl,xB⟩)
     go_ret2
     exact⟨rfl,HB.out _ xB⟩
    ·rw[Le hc];have HC:=QhC W 2 k old size sa sb so sc S d hold xA hm hc;generalize S.length=m at *;clear rs xA h6 hb hm h0 hold hsz hc h1
     go_enter func105,ntmps105
     go_wp2_with (go_at_call 156;with_reducible refine HC.mono ?_;rintro x w1 ⟨rfl,xB⟩)
     go_ret2
     exact⟨rfl,HB.out _ xB⟩
   ·by_cases h3:kd=3
    ·subst h3;rw[OG h0]
     by_cases hc:old<=size∧S=[]
     ·rw[Lm hc];obtain⟨xF,rfl⟩:=hc;have HC:=QiZ W 3 k old size sa sc d h0.2.2 xF;rw[IZ] at *;generalize (cov 0 old).length+(cov old size).length=cc at *;clear rs xA h6 hb hm h0 hold hsz xF h1 h2
      go_enter func105,ntmps105
      go_wp2_with (go_at_call 157;with_reducible refine HC.mono ?_;rintro x w1 ⟨rfl,xB⟩)
      go_ret2
      exact⟨rfl,HB.out _ xB⟩
     ·rw[Le hc];have HC:=Qlb W 3 k old size sa sc S d h0.2.2 hm (by rintro⟨a,b⟩;exact hc ⟨a,List.length_eq_zero_iff.1 b⟩)
      generalize S.length=m at *;clear rs xA h6 hb hm h0 hold hsz hc h1 h2
      go_enter func105,ntmps105
      go_wp2_with (go_at_call 157;with_reducible refine HC.mono ?_;rintro x w1 ⟨rfl,xB⟩)
      go_ret2
      exact⟨rfl,HB.out _ xB⟩
    ·rw[JZ h1 h2 h3];generalize S.length=m at *;clear rs xA h6 hb hm h0 hold hsz
     go_enter func105,ntmps105;go_wp2
     go_ret2
     exact⟨rfl,xE.out⟩
 ·rw[Qdw h0];clear hm0;generalize S.length=m at *
  by_cases xH:k<1
  ·clear rs xA h6 hb h0 hold hsz
   go_enter func105,ntmps105;go_wp2
   go_ret2
   exact⟨rfl,xE.out⟩
  ·by_cases xI:32<k
   ·clear rs xA h6 hb h0 hold hsz
    go_enter func105,ntmps105;go_wp2
    go_ret2
    exact⟨rfl,xE.out⟩
   ·have xJ:(1099511627776:Int)<(size:Int):=by omega
    clear rs xA h6 hb h0 hold hsz
    go_enter func105,ntmps105;go_wp2
    go_ret2
    exact⟨rfl,xE.out⟩
end
end
end Go.Proofs.YtdocjikpcbmcgaaGreatDoor
