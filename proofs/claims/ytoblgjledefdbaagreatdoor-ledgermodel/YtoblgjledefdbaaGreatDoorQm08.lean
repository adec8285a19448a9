/- Own work. -/
import Derived.Sort.KeysCollected
import Derived.Test.YtoblgjledefdbaaGreatDoorQm07
set_option maxRecDepth 100000
set_option maxHeartbeats 1000000
namespace Go.Proofs.YtoblgjledefdbaaGreatDoor
open Go.RowKit
attribute [local go_sem ↓] Go.wp_at_zero Go.wp_at_succ
open Go.Proofs.Tryz
namespace St.Rc
theorem Qls(n k:Nat):(zer n).drop k=zer (n - k):=by simp[zer]
theorem QmA(a b t:List UInt8)(k:Nat)(hk:a.length=k):ovr (a++b) k t=a++t++b.drop t.length:=by
 subst hk;rw[ovr,Lt (La _),Lo (La _),List.drop_append,LZ (by omega),Nd]
 congr 2
 omega
theorem YJ(a t:List UInt8)(n k:Nat)(hk:a.length=k):ovr (a++zer n) k t=a++t++zer (n - t.length):=by
 rw[QmA a (zer n) t k hk,Qls]
theorem QeR(w:World)(s:BA)(hs:s.size<=9223372036854775807)(t:BA)(ht:(⟨(payS s.data.toList).toArray⟩:BA)=t) :
  Calls prog 167 #[.string s] w fun e w'=>e = .returned (.string t)∧Below w.heap.size w w':=by
 rw[payS,Qb] at ht
 by_cases h1:s.size<=1048576
 ·rw[Lk h1] at ht;have z1 : ¬(s.size:Int) > 1048576:=by omega
  obtain⟨n,hn⟩ : ∃n,n=s.size:=⟨_,rfl⟩;have z2:(s.size:Int)<=1048576:=by omega
  have xL:IntKind.u64.wrap (s.size:Int)=(s.size:Int):=by rw[IntKind.wrap_u64];omega
  have hz:(4:Int)+(s.size:Int)+4=((s.size+8:Nat):Int):=by omega
  obtain⟨o,ho⟩:=Ze (if s.size+8 - 4=4 then 0 else 4)
  obtain⟨w0,xC⟩:=Ze (w.alloc (.cells (Array.replicate (s.size+8) (Value.int .u8 0)) 5));have xK:(Instr.makeSlice 127 (.int .i64 (4+(s.size:Int)+4)) (.int .i64 (4+(s.size:Int)+4))).run prog w = .ok (.slice (some ⟨w.heap.size,0,none⟩) (s.size+8) (s.size+8)) w0:=by
   rw[hz,<-xC];exact YT _ (by omega) w
  have HW:Hid (Byt w0 w.heap.size (zer (s.size+8))∧Below w.heap.size w w0∧w.heap.size<w0.heap.size):=by
   rw[<-xC];exact⟨OB w _,bal (Lb _ _) _,by simp⟩
  have xD:Hid (∀W,Calls prog 263 #[.slice (some ⟨w.heap.size,0,none⟩) (s.size+8) (s.size+8)] W fun e w'=>e = .returned (.tuple #[.slice (some ⟨w.heap.size,0,none⟩) 4 4,.slice (some ⟨w.heap.size,o,none⟩) s.size s.size])∧Below W.heap.size W w'):=fun W =>
   QbP W w.heap.size (s.size+8) (s.size+8) (by omega) (La _) (by omega) o ho s.size (by omega)
  have xE:Hid (∀W,Below w0.heap.size w0 W->Calls prog 264 #[.slice (some ⟨w.heap.size,0,none⟩) 4 4,.int .u64 (s.size:Int)] W fun e w'=>e = .returned (.tuple #[])∧(∀ty,(Builtin.copy_ #[127,9] ty #[.slice (some ⟨w.heap.size,o,none⟩) s.size s.size,.string s]).run prog w' = .ok (goInt s.size) (w'.setCells w.heap.size 4 (cY s.data.toList)))∧Byt (w'.setCells w.heap.size 4 (cY s.data.toList)) w.heap.size (big 4 s.size++s.data.toList++zer 4)∧Below w.heap.size w (w'.setCells w.heap.size 4 (cY s.data.toList))):=fun W hb=>by
   refine(Un W w.heap.size 0 4 4 s.size (zer (s.size+8)) (HW.out.1.next hb HW.out.2.2) (by rw[Qw];omega) (by decide) (by omega)).mono ?_
   rintro e w' ⟨rfl,hy,xB⟩;rw[show zer (s.size+8)=[]++zer (s.size+8) from rfl,YJ [] _ _ 0 rfl,Ql,Nd] at hy
   refine⟨rfl,fun ty=>QbW ty (k:=4) (n:=s.size) (m:=s.size) (o:=o) hy (by rw[Lc,Ql,Qw];omega) (fun h=>by rw[<-ho,Le (by omega)]) (La _),?_,?_⟩
   ·have:=hy.over 4 s.data.toList (by rw[Lc,Ql,Qw,Qb];omega)
    rw[YJ _ _ _ 4 (Ql _ _),Qb,show s.size+8 - 4 - s.size=4 by omega] at this
    exact this
   ·exact(Upo.sets (S:=fun b=>b=w.heap.size) (.inl rfl) (cY s.data.toList) 4 _ xB).since (Qa HW.out.2.1 hb) (La _)
  have xF:Hid (∀W,Byt W w.heap.size (big 4 s.size++s.data.toList++zer 4)->Calls prog 265 #[.slice (some ⟨w.heap.size,0,none⟩) (s.size+8) (s.size+8)] W fun e w'=>e = .returned (.string t)∧Below w.heap.size W w'):=fun W hy=>by
   have xA:(big 4 s.size++s.data.toList++zer 4).length=s.size+8:=by rw[Lc,Lc,Ql,Qw,Qb];omega
   have xJ:(big 4 s.size++s.data.toList++zer 4).take (s.size+8 - 4)=big 4 s.size++s.data.toList:=by
    rw[Lt (by rw[Lc,Ql,Qb];omega),Lo (by rw[Lc,Ql,Qb];omega)]
   refine(U8 W w.heap.size (s.size+8) (s.size+8) _ hy xA (by omega) (La _) (by omega) t (by rw[xJ,<-ht,pay,Qb])).mono ?_
   rintro e w' ⟨rfl,_,xB⟩;exact⟨rfl,xB.below (by have:=hy.lt (by omega);omega) (fun b hb=>by omega)⟩
  clear ho hn ht h1 hz xC
  go_enter func167,ntmps167
  go_wp2_with (first
   | (go_at_call 263;with_reducible refine(xD.out _).mono ?_;rintro e w1 ⟨rfl,hb⟩)
   | (go_at_call 264;with_reducible refine(xE.out _ hb).mono ?_;rintro e w2 ⟨rfl,xI,hy,xG⟩;generalize w2.setCells w.heap.size 4 (cY s.data.toList)=w3 at *)
   | (refine Uv (by rfl) _ _ _ _ (by rfl) (by rfl) (by rfl) (xI _) ?_)
   | (go_at_call 265;with_reducible refine(xF.out _ hy).mono ?_;rintro e w4 ⟨rfl,xH⟩))
  go_ret
  exact⟨rfl,xG.trans xH⟩
 ·rw[Le h1] at ht;subst ht;have z1:(s.size:Int) > 1048576:=by omega
  go_enter func167,ntmps167;go_wp2
  go_ret
  exact⟨rfl,Lb _ _⟩
theorem Qmp(p:Nat)(d:List UInt8)(h:d.length<=32):ovr (ovr (zer 40) 0 d) 32 (big 4 p)=d++zer (32 - d.length)++big 4 p++zer 4:=by
 rw[show zer 40=[]++zer 40 from rfl,YJ [] _ _ 0 rfl,Nd]
 have e:zer (40 - d.length)=zer (32 - d.length)++zer 8:=by
  rw[zer,zer,zer,NB]
  congr 1
  omega
 rw[e,<-Lq,YJ _ _ _ 32 (by rw[Lc,Qw];omega),Ql]
theorem Ju(w:World)(p:Nat)(hp:p<18446744073709551616)(s:BA)(hs:s.size<=9223372036854775807)(t:BA)(ht:(⟨(nodS p s.data.toList).toArray⟩:BA)=t) :
  Calls prog 266 #[.int .u64 (p:Int),.string s] w fun e w'=>e = .returned (.string t)∧Below w.heap.size w w':=by
 rw[nodS,Qb] at ht
 by_cases h1:s.size<=32
 ·rw[Lk h1] at ht;have z1 : ¬(s.size:Int) > 32:=by omega
  have hd:s.data.toList.length<=32:=by rw[Qb];exact h1
  obtain⟨w0,xD⟩:=Ze (w.alloc (.cells (Array.replicate 40 (Value.int .u8 0)) 5));have xO:(Instr.makeSlice 127 (.int .i64 40) (.int .i64 40)).run prog w = .ok (.slice (some ⟨w.heap.size,0,none⟩) 40 40) w0:=by
   rw[<-xD];exact YT 40 (by decide) w
  have HW:Hid (Byt w0 w.heap.size (zer 40)∧Below w.heap.size w w0∧w.heap.size<w0.heap.size):=by
   rw[<-xD];exact⟨OB w _,bal (Lb _ _) _,by simp⟩
  have xG:Hid (∀W,Calls prog 333 #[.slice (some ⟨w.heap.size,0,none⟩) 40 40] W fun e w'=>e = .returned (.tuple #[.slice (some ⟨w.heap.size,0,none⟩) 32 32,.slice (some ⟨w.heap.size,32,none⟩) 4 4])∧Below W.heap.size W w'):=fun W =>
   QbH W w.heap.size 40 40 (by decide)
  have xF:Hid (∀W,Below w0.heap.size w0 W->(∀ty,(Builtin.copy_ #[127,9] ty #[.slice (some ⟨w.heap.size,0,none⟩) 32 32,.string s]).run prog W = .ok (goInt s.size) (W.setCells w.heap.size 0 (cY s.data.toList)))∧Byt (W.setCells w.heap.size 0 (cY s.data.toList)) w.heap.size (ovr (zer 40) 0 s.data.toList)∧Below w.heap.size w (W.setCells w.heap.size 0 (cY s.data.toList))):=fun W hb=>by
   have hy:=HW.out.1.next hb HW.out.2.2;exact⟨fun ty=>QbW ty (k:=0) (n:=32) (m:=32) (o:=0) hy (by rw[Qw];decide) (fun _=>rfl) h1,hy.over 0 _ (by rw[Qw];omega),(Upo.sets (S:=fun b=>b=w.heap.size) (.inl rfl) (cY s.data.toList) 0 _ (Upo.refl _ _)).since (Qa HW.out.2.1 hb) (La _)⟩
  have xH:Hid (∀W,Byt W w.heap.size (ovr (zer 40) 0 s.data.toList)->Below w.heap.size w W->Calls prog 264 #[.slice (some ⟨w.heap.size,32,none⟩) 4 4,.int .u64 (p:Int)] W fun e w'=>e = .returned (.tuple #[])∧Byt w' w.heap.size (s.data.toList++zer (32 - s.data.toList.length)++big 4 p++zer 4)∧Below w.heap.size w w'):=fun W hy hb=>by
   refine(Un W w.heap.size 32 4 4 p _ hy (by rw[QaY _ _ _ (by rw[Qw];omega),Qw];decide) (by decide) hp).mono ?_
   rintro e w' ⟨rfl,xE,xC⟩;rw[Qmp p _ hd] at xE;exact⟨rfl,xE,xC.since hb (La _)⟩
  have xI:Hid (∀W,Byt W w.heap.size (s.data.toList++zer (32 - s.data.toList.length)++big 4 p++zer 4)->Calls prog 265 #[.slice (some ⟨w.heap.size,0,none⟩) 40 40] W fun e w'=>e = .returned (.string t)∧Below w.heap.size W w'):=fun W hy=>by
   have xB:(s.data.toList++zer (32 - s.data.toList.length)++big 4 p).length=36:=by rw[Lc,Lc,Ql,Qw];omega
   have xA:(s.data.toList++zer (32 - s.data.toList.length)++big 4 p++zer 4).length=40:=by rw[Lc,xB,Qw]
   have xN:(s.data.toList++zer (32 - s.data.toList.length)++big 4 p++zer 4).take (40 - 4)=s.data.toList++zer (32 - s.data.toList.length)++big 4 p:=by
    rw[Lt (by omega),Lo (by omega)]
   refine(U8 W w.heap.size 40 40 _ hy xA (by omega) (La _) (by omega) t (by rw[xN,<-ht,nod])).mono ?_
   rintro e w' ⟨rfl,_,xC⟩;exact⟨rfl,xC.below (by have:=hy.lt (by omega);omega) (fun b hb=>by omega)⟩
  clear ht h1 hd xD hp
  go_enter func266,ntmps266
  go_wp2_with (first
   | (go_at_call 333;with_reducible refine(xG.out _).mono ?_;rintro e w1 ⟨rfl,hb⟩;obtain⟨xM,hy,xJ⟩:=xF.out _ hb;generalize w1.setCells w.heap.size 0 (cY s.data.toList)=w3 at *)
   | (refine Uv (by rfl) _ _ _ _ (by rfl) (by rfl) (by rfl) (xM _) ?_)
   | (go_at_call 264;with_reducible refine(xH.out _ hy xJ).mono ?_;rintro e w4 ⟨rfl,hy,xK⟩)
   | (go_at_call 265;with_reducible refine(xI.out _ hy).mono ?_;rintro e w5 ⟨rfl,xL⟩))
  go_ret
  exact⟨rfl,xK.trans xL⟩
 ·rw[Le h1] at ht;subst ht;have z1:(s.size:Int) > 32:=by omega
  go_enter func266,ntmps266;go_wp2
  go_ret
  exact⟨rfl,Lb _ _⟩
def chn(c:BitVec 32)(s:List UInt8)(ss:LB):Nat:=crc (big 4 c.toNat++s++Qk ss)
theorem QhP(w:World)(c:BitVec 32)(s:BA)(hs:s.size<=9223372036854775807)(ao:OA)(b off len cap:Nat)(ss:LB)(hr:RdS w ao b off len ss)(hmx:len<=9223372036854775807)(r:Nat)(hR:chn c s.data.toList ss=r) :
  Calls prog 267 #[.int .u32 (c.toNat:Int),.string s,.slice ao len cap] w fun e w'=>e = .returned (.int .u32 (r:Int))∧Below w.heap.size w w':=by
 obtain⟨w0,xC⟩:=Ze (w.alloc (.cells (Array.replicate 4 (Value.int .u8 0)) 5));have xL:(Instr.makeSlice 127 (.int .i64 4) (.int .i64 4)).run prog w = .ok (.slice (some ⟨w.heap.size,0,none⟩) 4 4) w0:=by
  rw[<-xC];exact YT 4 (by decide) w
 have HW:Hid (Byt w0 w.heap.size (zer 4)∧Below w.heap.size w w0):=by
  rw[<-xC];exact⟨OB w _,bal (Lb _ _) _⟩
 obtain⟨d,hd⟩:=Ze c.toNat;have xK:d<4294967296:=by rw[<-hd];exact c.isLt
 have xM:IntKind.u64.wrap (d:Int)=(d:Int):=by rw[IntKind.wrap_u64];omega
 obtain⟨u,hu⟩ : ∃u:BA,(⟨(big 4 d).toArray⟩:BA)=u:=⟨_,rfl⟩;have xB:u.data.toList=big 4 d:=by rw[<-hu]
 have xD:Hid (Calls prog 264 #[.slice (some ⟨w.heap.size,0,none⟩) 4 4,.int .u64 (d:Int)] w0 fun e w'=>e = .returned (.tuple #[])∧(convert 127 9 (.slice (some ⟨w.heap.size,0,none⟩) 4 4)).run prog w' = .ok (.string u) w'∧Below w.heap.size w w'):=by
  refine(Un w0 w.heap.size 0 4 4 d (zer 4) HW.out.1 (by rw[Qw];decide) (by decide) (by omega)).mono ?_
  rintro e w' ⟨rfl,hy,xJ⟩;rw[show zer 4=[]++zer 4 from rfl,YJ [] _ _ 0 rfl,Ql,Nd,show zer (4 - 4)=[] from rfl,LS] at hy
  refine⟨rfl,hy.conv (k:=0) (n:=4) (by rw[Ql];decide) 0 (fun _=>rfl) 4 u (by rw[ND,Lo (by rw[Ql];decide)];exact hu),xJ.since HW.out.2 (La _)⟩
 obtain⟨x,hx⟩:=Ze (crc (big 4 d++s.data.toList));have HF:Hid (∀W,Calls prog 341 #[.slice (some ⟨W.heap.size,0,none⟩) 2 2] (W.alloc (.cells #[.string u,.string s] 9)) fun e w'=>e = .returned (.int .u32 (x:Int))∧Below W.heap.size W w'):=fun W=>by
  refine(Qdu _ _ W.heap.size 0 2 2 [u,s] ⟨rfl,fun _=>rfl,Qq W [.string u,.string s] 9,by intro z hz;simp at hz;rcases hz with rfl|rfl;rw[<-Qb,xB,Ql];decide;exact hs⟩ (by decide)).mono ?_
  rintro e w' ⟨rfl,hb⟩;refine⟨?_,((Lb _ _).alloc (La _) _).trans (hb.mono (by simp))⟩
  rw[<-hx,crc,sumL,<-xB];simp[Qk]
 have HR:Hid (chn c s.data.toList ss=r∧crc (big 4 d++s.data.toList)=x∧c.toNat=d):=⟨hR,hx,hd⟩;rw[hd];clear xC hu xB hx hR hd
 go_enter func267,ntmps267
 go_wp2_with (first
  | (go_at_call 264;with_reducible refine xD.out.mono ?_;rintro e w2 ⟨rfl,kc,xE⟩)
  | (go_at_call 341;with_reducible refine(HF.out _).mono ?_;rintro e w3 ⟨rfl,xF⟩))
 have xH:Hid (Below w.heap.size w w3):=Qa xE xF;clear kc xE xF xD HF
 go_loopg [8,23] len (fun G y i wr => ∃(k z:Nat),k<=len∧G=len - k∧y = .int .u32 (z:Int)∧i = .int .i64 (k:Int)∧Hid (z=(mor (mor 0#32 (big 4 d++s.data.toList)) (Qk (ss.take k))).toNat)∧Hid (Below w.heap.size w wr))
 case atStart=>go_light;exact⟨0,x,by omega,rfl,rfl,rfl,by show _=_;rw[IF,show Qk []=[] from rfl,Qg7,<-HR.out.2.1];rfl,xH⟩
 case round =>
  obtain⟨k,z,hk,rfl,rfl,rfl,HM,HB⟩:=hrel
  by_cases hlt:k<len
  ·have hz:(k:Int)<(len:Int):=by omega
   have k0:(0:Int)<=(k:Int):=by omega
   obtain rfl:=hr.ptr (by omega)
   have xG:=hr.next HB.out (La _);have ck:=xG.at hlt;have xA:=Qkh wr _ z HM.out (ss.getD k ByteArray.empty) (hr.szAt hlt);rw[<-Ol,<-UL ss k (by rw[hr.hl];exact hlt)] at xA
   obtain⟨y,hy⟩ : ∃y,y=(mor (mor 0#32 (big 4 d++s.data.toList)) (Qk (ss.take (k+1)))).toNat:=⟨_,rfl⟩;rw[<-hy] at xA;have HY:Hid (y=(mor (mor 0#32 (big 4 d++s.data.toList)) (Qk (ss.take (k+1)))).toNat):=hy;clear hy HM xG;generalize ss.getD k ByteArray.empty=part at *
   go_wp2_with (go_at_call 342;refine xA.mono ?_;rintro e w' ⟨rfl,xI⟩)
   go_roundg (len - (k+1))
   case rel=>go_light;exact⟨k+1,y,by omega,rfl,rfl,by go_num,HY,Qa HB.out xI⟩
   case measure=>go_light;omega
  ·obtain rfl:k=len:=by omega
   have hz : ¬(k:Int)<(k:Int):=by omega
   have HE:Hid (z=r):=by
    show _=_
    rw[HM.out,<-HR.out.1,chn,crc,HR.out.2.2,Lo (by rw[hr.hl];exact La _),Ol _ (big 4 d++s.data.toList)]
   clear HM;go_wp2
   go_ret
   exact⟨by rw[HE.out];rfl,HB.out⟩
end St.Rc
namespace St
theorem Qa{w W w2:World}(h:Below w.heap.size w W)(h2:Below W.heap.size W w2):Below w.heap.size w w2:=h.trans (h2.mono h.size)
theorem bal{w W:World}(h:Below w.heap.size w W)(o:Obj):Below w.heap.size w (W.alloc o):=h.alloc h.size o
theorem Qf{B:Nat}{a w:World}(h:Below B a w)(n:Nat):Below B a (w.drewN n):=⟨h.os,h.tape,h.output,h.size,h.block⟩
structure Upo(S:Nat->Prop)(w w':World):Prop where
 os:w'.os=w.os
 tape:w'.tape=w.tape
 output:w'.output=w.output
 size:w.heap.size<=w'.heap.size
 block : ∀b,b<w.heap.size -> ¬S b->w'.heap[b]? = w.heap[b]?
section
variable {S T:Nat->Prop} {w w' w1 w2:World}
theorem Upo.refl(S:Nat->Prop)(w:World):Upo S w w:=⟨rfl,rfl,rfl,La _,fun _ _ _=>rfl⟩
theorem Upo.of(h:Below w.heap.size w w'):Upo S w w':=⟨h.os,h.tape,h.output,h.size,fun b hb _=>h.block b hb⟩
theorem Upo.trans(h:Upo S w w1)(h2:Upo T w1 w2)(hT : ∀b,b<w.heap.size->T b->S b):Upo S w w2 :=
 ⟨h2.os.trans h.os,h2.tape.trans h.tape,h2.output.trans h.output,Lu h.size h2.size,fun b hb hs=>(h2.block b (Lx hb h.size) fun ht=>hs (hT b hb ht)).trans (h.block b hb hs)⟩
theorem Upo.mono(h:Upo S w w1)(hT : ∀b,b<w.heap.size->S b->T b):Upo T w w1:=⟨h.os,h.tape,h.output,h.size,fun b hb hs=>h.block b hb fun q=>hs (hT b hb q)⟩
theorem Upo.next(h:Upo S w w1)(h2:Below w1.heap.size w1 w2):Upo S w w2:=h.trans (Upo.of (S:=S) h2) fun _ _ q=>q
theorem Upo.below(h:Upo S w w'){B:Nat}(hB:B<=w.heap.size)(hS : ∀b,S b->B<=b):Below B w w' :=
 ⟨h.os,h.tape,h.output,h.size,fun b hb=>h.block b (by omega) fun hs=>by have:=hS b hs;omega⟩
theorem Upo.grown{o:Option Nat}(h:w.grownBy w' o)(hS : ∀b,o=some b->S b):Upo S w w' :=
 ⟨h.os,h.tape,h.output,h.size,fun b hb hs=>h.block b hb fun e=>hs (hS b e.symm)⟩
theorem Upo.set(h:Upo S w w')(b i:Nat)(v:Value)(hb:S b∨w.heap.size<=b):Upo S w (w'.setCell ⟨b,i,none⟩ v):=by
 refine⟨h.os,h.tape,h.output,by simpa using h.size,fun c hc hs => ?_⟩
 rw[<-h.block c hc hs];exact Below.heap_setCell _ _ _ _ (by show c≠b;rintro rfl;rcases hb with hb|hb;exact hs hb;omega)
theorem Upo.alloc(h:Upo S w w')(o:Obj):Upo S w (w'.alloc o):=h.next (bal (Lb _ _) o)
theorem Upo.drew(h:Upo S w w'):Upo S w w'.drew:=⟨h.os,h.tape,h.output,h.size,h.block⟩
end
theorem Yq(w:World)(o:Obj):(w.alloc o).heap[w.heap.size]? = some o:=(MapKept.heap_alloc w o).1
theorem new0(w:World)(o p:Obj):((w.alloc o).alloc p).heap[w.heap.size]? = some o:=((MapKept.heap_alloc (w.alloc o) p).2 _ (by simp)).trans (Yq w o)
theorem new2(w:World)(o p:Obj):((w.alloc o).alloc p).heap[w.heap.size+1]? = some p:=by
 have:=Yq (w.alloc o) p
 simpa using this
theorem O8{W:World}{q:Nat}{x0 x1 x2:Value}{T:TypeId}(h:W.heap[q]? = some (.cells #[x0,x1,x2] T (0,0)))(a b c:Value) :
  (((W.setCell ⟨q,0,none⟩ a).setCell ⟨q,1,none⟩ b).setCell ⟨q,2,none⟩ c).heap[q]? = some (.cells #[a,b,c] T (0,0)):=by
 have h1:(W.setCell ⟨q,0,none⟩ a).heap[q]? = some (.cells #[a,x1,x2] T (0,0)):=Lp W q 0 _ _ a h;have h2:((W.setCell ⟨q,0,none⟩ a).setCell ⟨q,1,none⟩ b).heap[q]? = some (.cells #[a,b,x2] T (0,0)):=Lp _ q 1 _ _ b h1;exact Lp _ q 2 _ _ c h2
theorem Qs{W:World}{q:Nat}{a b c:Value}{T:TypeId}(h:W.heap[q]? = some (.cells #[a,b,c] T (0,0))):W.cell? ⟨q,0,none⟩=some a∧W.cell? ⟨q,1,none⟩=some b∧W.cell? ⟨q,2,none⟩=some c :=
 ⟨by rw[cell_of_row W q 0 _ _ (0,0) h];rfl,by rw[cell_of_row W q 1 _ _ (0,0) h];rfl,by rw[cell_of_row W q 2 _ _ (0,0) h];rfl⟩
def hv(v:Value):Option (DataW Value×List MemPlace):=some (.held v,[])
theorem Tryz.keyS:Maps.Keyed prog 9:=Maps.string_keyed underlying9
theorem keyS{s:BA}(hs:s.size<=maxLen):keyOf prog 9 (.string s)=some (.string s.data.toList):=WideMaps.keyOf_string_mk underlying9 hs
def Mv(w:World)(m:Nat)(F:List UInt8->Option Value):Prop :=
 ∃D:DataW Value,w.ownsMap prog 9 hv m (Maps.size D) D ∧ ∀s,(F s=none->Maps.has D (.string s)=false) ∧ ∀v,F s=some v -> ∀z,D.atKey (.string s) z = .held v
section
variable {w W:World} {m:Nat} {F G:List UInt8->Option Value}
theorem Mv.lt(h:Mv w m F):m<w.heap.size:=by
 obtain⟨D,h1,_⟩:=h;exact h1.lt
theorem Mv.same(h:Mv w m F)(hb:W.heap[m]? = w.heap[m]?):Mv W m F:=by
 obtain⟨D,⟨es,c,h1,h2⟩,h3⟩:=h;exact⟨D,⟨es,c,hb.trans h1,h2⟩,h3⟩
theorem Qkj(w:World):Mv (w.alloc (.map #[] 0)) w.heap.size (fun _=>none) :=
 ⟨.map [],World.ownsMap_made _ _ _ _,fun s=>⟨fun _=>rfl,fun v h=>by cases h⟩⟩
theorem Mv.has(h:Mv w m F) : ∃D:DataW Value,w.ownsMap prog 9 hv m (Maps.size D) D∧(∀s,Maps.has D (.string s)=(F s).isSome) ∧ ∀s v,F s=some v -> ∀z,D.atKey (.string s) z = .held v:=by
 obtain⟨D,h1,h2⟩:=h;refine⟨D,h1,fun s => ?_,fun s=>(h2 s).2⟩
 cases e:F s with
 | none=>exact(h2 s).1 e
 | some v=>exact Maps.has_true_of_atKey ((h2 s).2 v e)
theorem QnE{D:DataW Value}{n:Nat}(h:w.ownsMap prog 9 hv m n D)(h2 : ∀s,(F s=none->Maps.has D (.string s)=false) ∧ ∀v,F s=some v -> ∀z,D.atKey (.string s) z = .held v):Mv w m F:=by
 obtain⟨es,c,g1,g2,g3,rfl⟩:=h;refine⟨_,⟨es,c,g1,g2,?_,rfl⟩,h2⟩
 simp only[Maps.size,length_read];exact La _
theorem Mv.look(h:Mv w m F){t e:TypeId}(ht:prog.underlying t=some (.map 9 e)){z:Value}(hz:(zeroValue e).run prog w = .ok z w){s:BA}(hs:s.size<=maxLen) :
  (Instr.lookup t (.map (some m)) (.string s) false).run prog w = .ok ((F s.data.toList).getD z) w:=by
 obtain⟨D,h1,h2⟩:=h;obtain⟨v,ps,hr,xA⟩:=h1.lookup Tryz.keyS ht hz (zd := .held z) (zp:=[]) rfl (keyS hs);rw[hr];simp only[hv,Option.some.injEq,Prod.mk.injEq] at xA
 cases e1:F s.data.toList with
 | none =>
  rw[Maps.atKey_of_not_has ((h2 _).1 e1)] at xA;have e2:v=z:=by injection xA.1
  rw[e2,Option.getD_none]
 | some u =>
  rw[(h2 _).2 u e1] at xA;have e2:v=u:=by injection xA.1
  rw[e2,Option.getD_some]
def updF(F:List UInt8->Option Value)(s:List UInt8)(o:Option Value):List UInt8->Option Value:=fun t=>if t=s then o else F t
theorem Mv.perm(h:Mv w m F){N:List (List UInt8)}(hn:N.Nodup)(hN : ∀s,s∈N↔(F s).isSome=true) : ∃D:DataW Value,w.ownsMap prog 9 hv m N.length D∧Maps.size D=N.length∧N.Perm (strKeys D):=by
 obtain⟨D,h1,h3,h2⟩:=h.has;obtain⟨es,rfl,xD,_⟩:=h1.entries Tryz.keyS;obtain⟨xA,xB,xC⟩:=h1.keysOf;obtain rfl:es=xA:=by simpa using xB
 have hp:=perm_strKeys xD (fun p hp=>by obtain⟨v,hv⟩:=xC p hp;obtain⟨x,_,hx,_⟩:=Maps.keyOf_str underlying9 hv;exact⟨x,hx⟩) hn (fun x=>by rw[hN,h3])
 have hl:N.length=Maps.size (.map es:DataW Value):=by rw[hp.length_eq];simp[strKeys,Maps.size]
 exact⟨_,by rw[hl];exact h1,hl.symm,hp⟩
theorem Mv.write(h:Mv w m F){t e:TypeId}(ht:prog.underlying t=some (.map 9 e)){N:List (List UInt8)}(hn:N.Nodup)(hN : ∀s,s∈N↔(F s).isSome=true)(hl:N.length<maxLen){s:BA}(hs:s.size<=maxLen)(v:Value) :
  ∃w',(Instr.mapUpdate t (.map (some m)) (.string s) v).run prog w = .ok () w'∧Mv w' m (updF F s.data.toList (some v))∧w.grownBy w' (some m):=by
 obtain⟨D0,_,e0,hp⟩:=h.perm hn hN;obtain⟨D,h1,h3,h2⟩:=h.has;have hz:Maps.size D<maxLen:=by
  obtain⟨es,hD,xD,_⟩:=h1.entries Tryz.keyS;obtain⟨xB,xA,xC⟩:=h1.keysOf;obtain rfl:es=xB:=by rw[hD] at xA;simpa using xA
  subst hD;have hp:=perm_strKeys xD (fun p hp=>by obtain⟨v,hv⟩:=xC p hp;obtain⟨x,_,hx,_⟩:=Maps.keyOf_str underlying9 hv;exact⟨x,hx⟩) hn (fun x=>by rw[hN,h3])
  have:Maps.size (.map es:DataW Value)=N.length:=by rw[hp.length_eq];simp[strKeys,Maps.size]
  omega
 obtain⟨w',hr,g1,g2⟩:=h1.update (val:=v) (d := .held v) (ps:=[]) Tryz.keyS ht hz (keyS hs) rfl;refine⟨w',hr,QnE g1 fun u => ?_,g2⟩
 by_cases e:u=s.data.toList
 ·subst e;refine⟨fun q=>by simp[updF] at q,fun x hx z => ?_⟩
  simp[updF] at hx;subst hx;exact Maps.atKey_put_same h1.isMap (by trivial) _ _
 ·have e':(Lit.string u) ≠ .string s.data.toList:=fun q=>e (by injection q)
  refine⟨fun q => ?_,fun x hx z => ?_⟩
  ·rw[Maps.has_put_other e',h3];simp only[updF,if_neg e] at q;rw[q];rfl
  ·rw[Maps.atKey_put_other e'];simp only[updF,if_neg e] at hx;exact h2 u x hx z
theorem Mv.drop(h:Mv w m F){t e:TypeId}(ht:prog.underlying t=some (.map 9 e)){s:BA}(hs:s.size<=maxLen)(ty:TypeId) :
  ∃w',(Builtin.delete_ #[t,9] ty #[.map (some m),.string s]).run prog w = .ok (.tuple #[]) w'∧Mv w' m (updF F s.data.toList none)∧w.grownBy w' (some m):=by
 obtain⟨D,h1,h3,h2⟩:=h.has;obtain⟨w',hr,g1,g2⟩:=h1.drop Tryz.keyS ht (keyS hs) ty;refine⟨w',hr,QnE g1 fun u => ?_,g2.grown⟩
 by_cases e:u=s.data.toList
 ·subst e;refine⟨fun _=>Maps.has_del_same,fun x hx z => ?_⟩
  simp[updF] at hx
 ·have e':(Lit.string u) ≠ .string s.data.toList:=fun q=>e (by injection q)
  refine⟨fun q => ?_,fun x hx z => ?_⟩
  ·rw[Maps.has_del_other e',h3];simp only[updF,if_neg e] at q;rw[q];rfl
  ·rw[Maps.atKey_del_other e'];simp only[updF,if_neg e] at hx;exact h2 u x hx z
end
end St
namespace St
structure FV where
 now:List UInt8
 syn:List UInt8
def fz:FV:=⟨[],[]⟩
instance:Inhabited FV:=⟨fz⟩
def FV.gone(f:FV):Bool:=f.now.isEmpty && f.syn.isEmpty
theorem Qbu{f:FV} : f.gone=true↔f=fz:=by
 obtain⟨a,b⟩:=f;simp[FV.gone,fz,List.isEmpty_iff]
theorem UM{f:FV} : f.gone=true↔f.now.length=0∧f.syn.length=0:=by
 obtain⟨a,b⟩:=f;simp[FV.gone,List.isEmpty_iff]
def Qe:List (List UInt8×FV)->List UInt8->FV
 | [],_=>fz
 | (t,f)::r,s=>if t=s then f else Qe r s
def QW:List (List UInt8×FV)->List UInt8->FV->List (List UInt8×FV)
 | [],s,f=>if f.gone then [] else [(s,f)]
 | (t,g)::r,s,f=>if t=s then (if f.gone then r else (s,f)::r) else if s<t then (if f.gone then (t,g)::r else (s,f)::(t,g)::r) else (t,g)::QW r s f
def Ord(L:List (List UInt8×FV)):Prop:=L.Pairwise (fun a b=>a.1<b.1) ∧ ∀p∈L,p.2.gone=false
theorem Ul:Ord []:=⟨.nil,by simp⟩
theorem Qo4{s t:List UInt8}(h1 : ¬t=s)(h2 : ¬s<t):t<s:=by
 rcases Decidable.em (t<s) with h|h
 ·exact h
 ·exact absurd (List.le_antisymm (List.not_lt.1 h2) (List.not_lt.1 h)) h1
theorem YE{L:List (List UInt8×FV)}{s:List UInt8}(h:s ∉ L.map (·.1)):Qe L s=fz:=by
 induction L with
 | nil=>rfl
 | cons p r ih =>
  obtain⟨t,g⟩:=p;simp only[List.map_cons,List.mem_cons,not_or] at h;rw[Qe,Le (fun e=>h.1 e.symm)]
  exact ih h.2
theorem Qbn{L:List (List UInt8×FV)}(ho:Ord L){s:List UInt8}{f:FV}(h:(s,f)∈L):Qe L s=f:=by
 induction L with
 | nil=>simp at h
 | cons p r ih =>
  obtain⟨t,g⟩:=p;obtain⟨h1,h2⟩:=ho;obtain⟨h3,h4⟩:=List.pairwise_cons.1 h1;rw[Qe]
  rcases List.mem_cons.1 h with e|e
  ·injection e with e1 e2
   rw[Lk e1.symm,e2]
  ·have:=h3 _ e;rw[Le (fun q=>by simp only[q] at this;exact absurd this (N5 _))]
   exact ih ⟨h4,fun p hp=>h2 p (LT _ hp)⟩ e
theorem QgT{L:List (List UInt8×FV)}{s:List UInt8}(h:s∈L.map (·.1)):(s,Qe L s)∈L:=by
 induction L with
 | nil=>simp at h
 | cons p r ih =>
  obtain⟨t,g⟩:=p;rw[Qe]
  by_cases e:t=s
  ·rw[Lk e,e];simp
  ·rw[Le e];simp only[List.map_cons,List.mem_cons] at h
   rcases h with h|h
   ·exact absurd h.symm e
   ·exact LT _ (ih h)
theorem Qan{L:List (List UInt8×FV)}(ho:Ord L){s:List UInt8} : (Qe L s).gone=true↔s ∉ L.map (·.1):=by
 constructor
 ·intro h hs;have:=ho.2 _ (QgT hs);rw[h] at this;cases this
 ·intro h;rw[YE h];rfl
theorem Qeq{L:List (List UInt8×FV)}{s:List UInt8}{f:FV}{p:List UInt8×FV}(h:p∈QW L s f):p∈L∨(p=(s,f)∧f.gone=false):=by
 induction L with
 | nil =>
  rw[QW] at h
  split at h
  ·simp at h
  ·rename_i hg
   exact .inr ⟨by simpa using h,by simpa using hg⟩
 | cons q r ih =>
  obtain⟨t,g⟩:=q;rw[QW] at h
  split at h
  ·split at h
   ·exact .inl (LT _ h)
   ·rename_i hg
    rcases List.mem_cons.1 h with h|h
    ·exact .inr ⟨h,by simpa using hg⟩
    ·exact .inl (LT _ h)
  ·split at h
   ·split at h
    ·exact .inl h
    ·rename_i hg
     rcases List.mem_cons.1 h with h|h
     ·exact .inr ⟨h,by simpa using hg⟩
     ·exact .inl h
   ·rcases List.mem_cons.1 h with h|h
    ·exact .inl (by rw[h];simp)
    ·rcases ih h with h|h
     ·exact .inl (LT _ h)
     ·exact .inr h
theorem YI{L:List (List UInt8×FV)}(ho:Ord L)(s:List UInt8)(f:FV):Ord (QW L s f):=by
 refine⟨?_,fun p hp => ?_⟩
 ·induction L with
  | nil=>rw[QW];split <;> simp
  | cons q r ih =>
   obtain⟨t,g⟩:=q;obtain⟨h1,h2⟩:=ho;obtain⟨h3,h4⟩:=List.pairwise_cons.1 h1;have hr:Ord r:=⟨h4,fun p hp=>h2 p (LT _ hp)⟩
   rw[QW]
   split
   ·rename_i e
    split
    ·exact h4
    ·exact List.pairwise_cons.2 ⟨fun p hp=>by have:=h3 p hp;rw[e] at this;exact this,h4⟩
   ·rename_i e
    split
    ·rename_i hlt
     split
     ·exact h1
     ·exact List.pairwise_cons.2 ⟨fun p hp=>by
       rcases List.mem_cons.1 hp with rfl|hp
       ·exact hlt
       ·exact I5 hlt (h3 p hp),h1⟩
    ·rename_i hlt
     refine List.pairwise_cons.2 ⟨fun p hp => ?_,ih hr⟩
     rcases Qeq hp with hp|⟨rfl,_⟩
     ·exact h3 p hp
     ·exact Qo4 e hlt
 ·rcases Qeq hp with hp|⟨rfl,hg⟩
  ·exact ho.2 p hp
  ·exact hg
theorem QP{L:List (List UInt8×FV)}(ho:Ord L)(s:List UInt8)(f:FV)(t:List UInt8):Qe (QW L s f) t=if t=s then f else Qe L t:=by
 induction L with
 | nil =>
  rw[QW]
  split
  ·rename_i hg
   rw[Qbu.1 hg];simp[Qe]
  ·simp only[Qe]
   by_cases e:t=s
   ·rw[Lk e,Lk e.symm]
   ·rw[Le e,Le (fun q=>e q.symm)]
 | cons q r ih =>
  obtain⟨u,g⟩:=q;obtain⟨h1,h2⟩:=ho;obtain⟨h3,h4⟩:=List.pairwise_cons.1 h1;have hr:Ord r:=⟨h4,fun p hp=>h2 p (LT _ hp)⟩
  have xA : ∀ {x:List UInt8},¬u<x->x ∉ r.map (·.1):=fun {x} hx hm=>by
   obtain⟨p,hp,rfl⟩:=List.mem_map.1 hm;exact hx (h3 p hp)
  rw[QW]
  split
  ·rename_i e
   subst e
   split
   ·rename_i hg
    rw[Qbu.1 hg]
    by_cases e:t=u
    ·rw[Lk e,YE (by rw[e];exact xA (N5 _))]
    ·rw[Le e,Qe,Le (fun q=>e q.symm)]
   ·simp only[Qe]
    by_cases e:t=u
    ·rw[Lk e,Lk e.symm]
    ·rw[Le e,Le (fun q=>e q.symm)];simp only[if_neg (fun q:u=t=>e q.symm)]
  ·rename_i e
   split
   ·rename_i hlt
    have xB:s ∉ ((u,g)::r).map (·.1):=by
     simp only[List.map_cons,List.mem_cons,not_or];exact⟨fun q=>e q.symm,xA (fun h=>absurd (I5 hlt h) (N5 _))⟩
    split
    ·rename_i hg
     rw[Qbu.1 hg]
     by_cases e:t=s
     ·rw[Lk e,e,YE xB]
     ·rw[Le e]
    ·rw[Qe]
     by_cases e:t=s
     ·rw[Lk e,Lk e.symm]
     ·rw[Le e,Le (fun q=>e q.symm)]
   ·rw[Qe,ih hr,Qe]
    by_cases e2:u=t
    ·rw[Lk e2,Le (fun q=>e (e2.trans q)),Lk e2]
    ·rw[Le e2,Le e2]
theorem Qmy{L M:List (List UInt8×FV)}(hL:Ord L)(hM:Ord M)(h : ∀s,Qe L s=Qe M s):L=M:=by
 have xA : ∀ {A B:List (List UInt8×FV)},Ord A->Ord B->(∀s,Qe A s=Qe B s) -> ∀p∈A,p∈B:=fun {A B} hA hB hh p hp=>by
  obtain⟨s,f⟩:=p;have e:=Qbn hA hp;have xB:s∈B.map (·.1):=by
   rcases Decidable.em (s∈B.map (·.1)) with h|h
   ·exact h
   ·have:=(Qan hB).2 h;rw[<-hh,e] at this;have q:=hA.2 _ hp;simp only[this] at q;cases q
  have:=QgT xB;rw[<-hh,e] at this;exact this
 have nd : ∀ {A:List (List UInt8×FV)},Ord A->A.Nodup:=fun {A} hA=>hA.1.imp fun {a b} hlt e=>by rw[e] at hlt;exact N5 _ hlt
 refine List.Perm.eq_of_pairwise (le:=fun a b=>a.1<b.1) (fun a b _ _ h1 h2=>absurd (I5 h1 h2) (N5 _)) hL.1 hM.1 ((List.perm_ext_iff_of_nodup (nd hL) (nd hM)).2 fun p=>⟨xA hL hM h p,xA hM hL (fun s=>(h s).symm) p⟩)
def ch(keep:List Bool)(i:Nat):Bool:=keep.getD (i % keep.length) false
def sec(l:List UInt8)(s:Nat):List UInt8:=(List.range 64).map fun j=>l.getD (64*s+j) 0
theorem U9(l:List UInt8)(s:Nat):(sec l s).length=64:=by simp[sec]
def sgo(keep:List Bool)(f:FV)(i:Nat):Nat->List UInt8×Nat
 | 0=>([],i)
 | s+1=>let r:=sgo keep f i s
  if sec f.now s=sec f.syn s then (r.1++sec f.syn s,r.2) else (r.1++(if ch keep r.2 then sec f.now s else sec f.syn s),r.2+1)
theorem Qa4(keep:List Bool)(f:FV)(i s:Nat):(sgo keep f i s).1.length=64*s:=by
 induction s with
 | zero=>rfl
 | succ s ih =>
  simp only[sgo]
  split
  ·simp only[List.length_append,ih,U9];omega
  ·simp only[List.length_append,ih]
   split <;> simp only[U9] <;> omega
def nsec(f:FV):Nat:=(max f.now.length f.syn.length+63) / 64
def slen(keep:List Bool)(f:FV)(i:Nat):Nat×Nat :=
 if f.now.length=f.syn.length then (f.syn.length,i) else (if ch keep i then f.now.length else f.syn.length,i+1)
def stay(keep:List Bool)(f:FV)(i:Nat):List UInt8×Nat :=
 let n:=slen keep f i
 let r:=sgo keep f n.2 (nsec f)
 (r.1.take n.1,r.2)
theorem Qk7(keep:List Bool)(f:FV)(i:Nat):(stay keep f i).1.length=(slen keep f i).1:=by
 simp only[stay,List.length_take,Qa4,nsec];have:(slen keep f i).1<=max f.now.length f.syn.length:=by
  unfold slen
  split
  ·exact Nat.le_max_right _ _
  ·split
   ·exact Nat.le_max_left _ _
   ·exact Nat.le_max_right _ _
 omega
def aft(keep:List Bool):List (List UInt8×FV)->Nat->List (List UInt8×List UInt8)
 | [],_=>[]
 | (s,f)::r,i=>let x:=stay keep f i
  if x.1=[] then aft keep r x.2 else (s,x.1)::aft keep r x.2
end St
end Go.Proofs.YtoblgjledefdbaaGreatDoor
