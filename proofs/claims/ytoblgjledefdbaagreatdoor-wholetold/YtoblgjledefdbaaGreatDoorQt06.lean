/- Own work. -/
import Derived.Shelf.Sort.Plain
import Derived.Shelf.Slices.In.SortNone
import Derived.Sort.OwnSorted
import Derived.Test.YtoblgjledefdbaaGreatDoorQt05
set_option maxRecDepth 100000
set_option maxHeartbeats 1000000
namespace Go.Proofs.YtoblgjledefdbaaGreatDoor
open Go.RowKit
attribute [local go_sem ↓] Go.wp_at_zero Go.wp_at_succ
open Go.Proofs.Tryz
namespace St.Rc
theorem Qmu(n k:Nat):(zer n).drop k=zer (n-k):=by simp[zer]
theorem QnL(a b t:List UInt8)(k:Nat)(hk:a.length=k):ovr (a++b) k t=a++t++b.drop t.length:=by
 subst hk;rw[ovr,Lu (La _),Lp (La _),List.drop_append,L3 (by omega),Nj]
 congr 2
 omega
theorem YO(a t:List UInt8)(n k:Nat)(hk:a.length=k):ovr (a++zer n) k t=a++t++zer (n-t.length):=by
 rw[QnL a (zer n) t k hk,Qmu]
theorem Qft(w:World)(s:BA)(hs:s.size<=9223372036854775807)(t:BA)(ht:(⟨(payS s.data.toList).toArray⟩:BA)=t) :
  Zr 167 #[.string s] w (.string t):=by
 rw[payS,Qb] at ht
 by_cases h1:s.size<=1048576
 ·rw[Lf h1] at ht;have z1:¬(s.size:Int) > 1048576:=by omega
  obtain⟨n,hn⟩:∃n,n=s.size:=⟨_,rfl⟩;have z2:(s.size:Int)<=1048576:=by omega
  have xL:IntKind.u64.wrap (s.size:Int)=(s.size:Int):=by rw[IntKind.wrap_u64];omega
  have hz:(4:Int)+(s.size:Int)+4=((s.size+8:Nat):Int):=by omega
  obtain⟨o,ho⟩:=Ze (if s.size+8-4=4 then 0 else 4)
  obtain⟨w0,xC⟩:=Ze (w.alloc (.cells (Array.replicate (s.size+8) (Value.int .u8 0)) 5));have xK:(Instr.makeSlice 127 (.int .i64 (4+(s.size:Int)+4)) (.int .i64 (4+(s.size:Int)+4))).run prog w= .ok (.slice (Zp w.heap.size) (s.size+8) (s.size+8)) w0:=by
   rw[hz,<-xC];exact UB _ (by omega) w
  have HW:Hid (Byt w0 w.heap.size (zer (s.size+8))∧Bl w w0∧w.heap.size<w0.heap.size):=by
   rw[<-xC];exact⟨O3 w _,bal (Lb _ _) _,by simp⟩
  have xD:Hid (∀W,Zr 263 #[.slice (Zp w.heap.size) (s.size+8) (s.size+8)] W (.tuple #[.slice (Zp w.heap.size) 4 4,.slice (some ⟨w.heap.size,o,none⟩) s.size s.size])):=fun W=>
   Qcp W w.heap.size (s.size+8) (s.size+8) (by omega) (La _) (by omega) o ho s.size (by omega)
  have xE:Hid (∀W,Bl w0 W->Calls prog 264 #[.slice (Zp w.heap.size) 4 4,.int .u64 s.size] W fun e w'=>e= .returned (.tuple #[])∧(∀ty,(Builtin.copy_ #[127,9] ty #[.slice (some ⟨w.heap.size,o,none⟩) s.size s.size,.string s]).run prog w'= .ok (goInt s.size) (w'.setCells w.heap.size 4 (cY s.data.toList)))∧Byt (w'.setCells w.heap.size 4 (cY s.data.toList)) w.heap.size (big 4 s.size++s.data.toList++zer 4)∧Bl w (w'.setCells w.heap.size 4 (cY s.data.toList))):=fun W hb=>by
   refine(Uv W w.heap.size 0 4 4 s.size (zer (s.size+8)) (HW.out.1.next hb HW.out.2.2) (by rw[Qw];omega) (by decide) (by omega)).mono ?_
   rintro e w' ⟨rfl,hy,xB⟩;rw[show zer (s.size+8)=[]++zer (s.size+8) from rfl,YO [] _ _ 0 rfl,Qk,Nj] at hy
   refine⟨rfl,fun ty=>Qcw ty (k:=4) (n:=s.size) (m:=s.size) (o:=o) hy (by rw[Lc,Qk,Qw];omega) (fun h=>by rw[<-ho,Le (by omega)]) (La _),?_,?_⟩
   ·have:=hy.over 4 s.data.toList (by rw[Lc,Qk,Qw,Qb];omega)
    rw[YO _ _ _ 4 (Qk _ _),Qb,show s.size+8-4-s.size=4 by omega] at this
    exact this
   ·exact(Upo.sets (S:=fun b=>b=w.heap.size) (.inl rfl) (cY s.data.toList) 4 _ xB).since (Qa HW.out.2.1 hb) (La _)
  have xF:Hid (∀W,Byt W w.heap.size (big 4 s.size++s.data.toList++zer 4)->Calls prog 265 #[.slice (Zp w.heap.size) (s.size+8) (s.size+8)] W fun e w'=>e= .returned (.string t)∧Below w.heap.size W w'):=fun W hy=>by
   have xA:(big 4 s.size++s.data.toList++zer 4).length=s.size+8:=by rw[Lc,Lc,Qk,Qw,Qb];omega
   have xJ:(big 4 s.size++s.data.toList++zer 4).take (s.size+8-4)=big 4 s.size++s.data.toList:=by
    rw[Lu (by rw[Lc,Qk,Qb];omega),Lp (by rw[Lc,Qk,Qb];omega)]
   refine(Jv W w.heap.size (s.size+8) (s.size+8) _ hy xA (by omega) (La _) (by omega) t (by rw[xJ,<-ht,pay,Qb])).mono ?_
   rintro e w' ⟨rfl,_,xB⟩;exact⟨rfl,xB.below (by have:=hy.lt (by omega);omega) (fun b hb=>by omega)⟩
  clear ho hn ht h1 hz xC
  go_enter func167,ntmps167
  go_wp2_with (first
   | (go_at_call 263;with_reducible refine(xD.out _).mono ?_;rintro e w1 ⟨rfl,hb⟩)
   | (go_at_call 264;with_reducible refine(xE.out _ hb).mono ?_;rintro e w2 ⟨rfl,xI,hy,xG⟩;generalize w2.setCells w.heap.size 4 (cY s.data.toList)=w3 at *)
   | (refine UI (by rfl) _ _ _ _ (by rfl) (by rfl) (by rfl) (xI _) ?_)
   | (go_at_call 265;with_reducible refine(xF.out _ hy).mono ?_;rintro e w4 ⟨rfl,xH⟩))
  go_ret
  exact⟨rfl,xG.trans xH⟩
 ·rw[Le h1] at ht;subst ht;have z1:(s.size:Int) > 1048576:=by omega
  go_enter func167,ntmps167;go_wp2
  go_ret
  exact⟨rfl,Lb _ _⟩
theorem Qny(p:Nat)(d:List UInt8)(h:d.length<=32):ovr (ovr (zer 40) 0 d) 32 (big 4 p)=d++zer (32-d.length)++big 4 p++zer 4:=by
 rw[show zer 40=[]++zer 40 from rfl,YO [] _ _ 0 rfl,Nj]
 have e:zer (40-d.length)=zer (32-d.length)++zer 8:=by
  rw[zer,zer,zer,NH]
  congr 1
  omega
 rw[e,<-Lw,YO _ _ _ 32 (by rw[Lc,Qw];omega),Qk]
theorem U8(w:World)(p:Nat)(hp:p<18446744073709551616)(s:BA)(hs:s.size<=9223372036854775807)(t:BA)(ht:(⟨(nodS p s.data.toList).toArray⟩:BA)=t) :
  Zr 266 #[.int .u64 p,.string s] w (.string t):=by
 rw[nodS,Qb] at ht
 by_cases h1:s.size<=32
 ·rw[Lf h1] at ht;have z1:¬(s.size:Int) > 32:=by omega
  have hd:s.data.toList.length<=32:=by rw[Qb];exact h1
  obtain⟨w0,xD⟩:=Ze (w.alloc (.cells (Array.replicate 40 (Value.int .u8 0)) 5));have xO:(Instr.makeSlice 127 (.int .i64 40) (.int .i64 40)).run prog w= .ok (.slice (Zp w.heap.size) 40 40) w0:=by
   rw[<-xD];exact UB 40 (by decide) w
  have HW:Hid (Byt w0 w.heap.size (zer 40)∧Bl w w0∧w.heap.size<w0.heap.size):=by
   rw[<-xD];exact⟨O3 w _,bal (Lb _ _) _,by simp⟩
  have xG:Hid (∀W,Zr 333 #[.slice (Zp w.heap.size) 40 40] W (.tuple #[.slice (Zp w.heap.size) 32 32,.slice (some ⟨w.heap.size,32,none⟩) 4 4])):=fun W=>
   Qci W w.heap.size 40 40 (by decide)
  have xF:Hid (∀W,Bl w0 W->(∀ty,(Builtin.copy_ #[127,9] ty #[.slice (Zp w.heap.size) 32 32,.string s]).run prog W= .ok (goInt s.size) (W.setCells w.heap.size 0 (cY s.data.toList)))∧Byt (W.setCells w.heap.size 0 (cY s.data.toList)) w.heap.size (ovr (zer 40) 0 s.data.toList)∧Bl w (W.setCells w.heap.size 0 (cY s.data.toList))):=fun W hb=>by
   have hy:=HW.out.1.next hb HW.out.2.2;exact⟨fun ty=>Qcw ty (k:=0) (n:=32) (m:=32) (o:=0) hy (by rw[Qw];decide) (fun _=>rfl) h1,hy.over 0 _ (by rw[Qw];omega),(Upo.sets (S:=fun b=>b=w.heap.size) (.inl rfl) (cY s.data.toList) 0 _ (Upo.refl _ _)).since (Qa HW.out.2.1 hb) (La _)⟩
  have xH:Hid (∀W,Byt W w.heap.size (ovr (zer 40) 0 s.data.toList)->Bl w W->Calls prog 264 #[.slice (some ⟨w.heap.size,32,none⟩) 4 4,.int .u64 p] W fun e w'=>e= .returned (.tuple #[])∧Byt w' w.heap.size (s.data.toList++zer (32-s.data.toList.length)++big 4 p++zer 4)∧Bl w w'):=fun W hy hb=>by
   refine(Uv W w.heap.size 32 4 4 p _ hy (by rw[QbB _ _ _ (by rw[Qw];omega),Qw];decide) (by decide) hp).mono ?_
   rintro e w' ⟨rfl,xE,xC⟩;rw[Qny p _ hd] at xE;exact⟨rfl,xE,xC.since hb (La _)⟩
  have xI:Hid (∀W,Byt W w.heap.size (s.data.toList++zer (32-s.data.toList.length)++big 4 p++zer 4)->Calls prog 265 #[.slice (Zp w.heap.size) 40 40] W fun e w'=>e= .returned (.string t)∧Below w.heap.size W w'):=fun W hy=>by
   have xB:(s.data.toList++zer (32-s.data.toList.length)++big 4 p).length=36:=by rw[Lc,Lc,Qk,Qw];omega
   have xA:(s.data.toList++zer (32-s.data.toList.length)++big 4 p++zer 4).length=40:=by rw[Lc,xB,Qw]
   have xN:(s.data.toList++zer (32-s.data.toList.length)++big 4 p++zer 4).take (40-4)=s.data.toList++zer (32-s.data.toList.length)++big 4 p:=by
    rw[Lu (by omega),Lp (by omega)]
   refine(Jv W w.heap.size 40 40 _ hy xA (by omega) (La _) (by omega) t (by rw[xN,<-ht,nod])).mono ?_
   rintro e w' ⟨rfl,_,xC⟩;exact⟨rfl,xC.below (by have:=hy.lt (by omega);omega) (fun b hb=>by omega)⟩
  clear ht h1 hd xD hp
  go_enter func266,ntmps266
  go_wp2_with (first
   | (go_at_call 333;with_reducible refine(xG.out _).mono ?_;rintro e w1 ⟨rfl,hb⟩;obtain⟨xM,hy,xJ⟩:=xF.out _ hb;generalize w1.setCells w.heap.size 0 (cY s.data.toList)=w3 at *)
   | (refine UI (by rfl) _ _ _ _ (by rfl) (by rfl) (by rfl) (xM _) ?_)
   | (go_at_call 264;with_reducible refine(xH.out _ hy xJ).mono ?_;rintro e w4 ⟨rfl,hy,xK⟩)
   | (go_at_call 265;with_reducible refine(xI.out _ hy).mono ?_;rintro e w5 ⟨rfl,xL⟩))
  go_ret
  exact⟨rfl,xK.trans xL⟩
 ·rw[Le h1] at ht;subst ht;have z1:(s.size:Int) > 32:=by omega
  go_enter func266,ntmps266;go_wp2
  go_ret
  exact⟨rfl,Lb _ _⟩
def chn(c:BitVec 32)(s:List UInt8)(ss:LB):Nat:=crc (big 4 c.toNat++s++Qj ss)
theorem Qim(w:World)(c:BitVec 32)(s:BA)(hs:s.size<=9223372036854775807)(ao:OA)(b off len cap:Nat)(ss:LB)(hr:RdS w ao b off len ss)(hmx:len<=9223372036854775807)(r:Nat)(hR:chn c s.data.toList ss=r) :
  Zr 267 #[.int .u32 c.toNat,.string s,.slice ao len cap] w (.int .u32 r):=by
 obtain⟨w0,xC⟩:=Ze (w.alloc (.cells (Array.replicate 4 (Value.int .u8 0)) 5));have xL:(Instr.makeSlice 127 (.int .i64 4) (.int .i64 4)).run prog w= .ok (.slice (Zp w.heap.size) 4 4) w0:=by
  rw[<-xC];exact UB 4 (by decide) w
 have HW:Hid (Byt w0 w.heap.size (zer 4)∧Bl w w0):=by
  rw[<-xC];exact⟨O3 w _,bal (Lb _ _) _⟩
 obtain⟨d,hd⟩:=Ze c.toNat;have xK:d<4294967296:=by rw[<-hd];exact c.isLt
 have xM:IntKind.u64.wrap (d:Int)=(d:Int):=by rw[IntKind.wrap_u64];omega
 obtain⟨u,hu⟩:∃u:BA,(⟨(big 4 d).toArray⟩:BA)=u:=⟨_,rfl⟩;have xB:u.data.toList=big 4 d:=by rw[<-hu]
 have xD:Hid (Calls prog 264 #[.slice (Zp w.heap.size) 4 4,.int .u64 d] w0 fun e w'=>e= .returned (.tuple #[])∧(convert 127 9 (.slice (Zp w.heap.size) 4 4)).run prog w'= .ok (.string u) w'∧Bl w w'):=by
  refine(Uv w0 w.heap.size 0 4 4 d (zer 4) HW.out.1 (by rw[Qw];decide) (by decide) (by omega)).mono ?_
  rintro e w' ⟨rfl,hy,xJ⟩;rw[show zer 4=[]++zer 4 from rfl,YO [] _ _ 0 rfl,Qk,Nj,show zer (4-4)=[] from rfl,LU] at hy
  refine⟨rfl,hy.conv (k:=0) (n:=4) (by rw[Qk];decide) 0 (fun _=>rfl) 4 u (by rw[NM,Lp (by rw[Qk];decide)];exact hu),xJ.since HW.out.2 (La _)⟩
 obtain⟨x,hx⟩:=Ze (crc (big 4 d++s.data.toList));have HF:Hid (∀W,Calls prog 341 #[.slice (Zp W.heap.size) 2 2] (W.alloc (.cells #[.string u,.string s] 9)) fun e w'=>e= .returned (.int .u32 x)∧Bl W w'):=fun W=>by
  refine(Qd8 _ _ W.heap.size 0 2 2 [u,s] ⟨rfl,fun _=>rfl,Qv W [.string u,.string s] 9,by intro z hz;simp at hz;rcases hz with rfl|rfl;rw[<-Qb,xB,Qk];decide;exact hs⟩ (by decide)).mono ?_
  rintro e w' ⟨rfl,hb⟩;refine⟨?_,((Lb _ _).alloc (La _) _).trans (hb.mono (by simp))⟩
  rw[<-hx,crc,sumL,<-xB];simp[Qj]
 have HR:Hid (chn c s.data.toList ss=r∧crc (big 4 d++s.data.toList)=x∧c.toNat=d):=⟨hR,hx,hd⟩;rw[hd];clear xC hu xB hx hR hd
 go_enter func267,ntmps267
 go_wp2_with (first
  | (go_at_call 264;with_reducible refine xD.out.mono ?_;rintro e w2 ⟨rfl,kc,xE⟩)
  | (go_at_call 341;with_reducible refine(HF.out _).mono ?_;rintro e w3 ⟨rfl,xF⟩))
 have xH:Hid (Bl w w3):=Qa xE xF;clear kc xE xF xD HF
 go_loopg [8,23] len (fun G y i wr=> ∃(k z:Nat),k<=len∧G=len-k∧y= .int .u32 z∧i= .int .i64 k∧Hid (z=(mor (mor 0#32 (big 4 d++s.data.toList)) (Qj (ss.take k))).toNat)∧Hid (Bl w wr))
 case atStart=>go_light;exact⟨0,x,by omega,rfl,rfl,rfl,by show _=_;rw[IL,show Qj []=[] from rfl,QhC,<-HR.out.2.1];rfl,xH⟩
 case round=>
  obtain⟨k,z,hk,rfl,rfl,rfl,HM,HB⟩:=hrel
  by_cases hlt:k<len
  ·have hz:(k:Int)<(len:Int):=by omega
   have k0:(0:Int)<=(k:Int):=by omega
   obtain rfl:=hr.ptr (by omega)
   have xG:=hr.next HB.out (La _);have ck:=xG.at hlt;have xA:=Qk0 wr _ z HM.out (ss.getD k ByteArray.empty) (hr.szAt hlt);rw[<-OP,<-U0 ss k (by rw[hr.hl];exact hlt)] at xA
   obtain⟨y,hy⟩:∃y,y=(mor (mor 0#32 (big 4 d++s.data.toList)) (Qj (ss.take (k+1)))).toNat:=⟨_,rfl⟩;rw[<-hy] at xA;have HY:Hid (y=(mor (mor 0#32 (big 4 d++s.data.toList)) (Qj (ss.take (k+1)))).toNat):=hy;clear hy HM xG;generalize ss.getD k ByteArray.empty=part at *
   go_wp2_with (go_at_call 342;refine xA.mono ?_;rintro e w' ⟨rfl,xI⟩)
   go_roundg (len-(k+1))
   case rel=>go_light;exact⟨k+1,y,by omega,rfl,rfl,by go_num,HY,Qa HB.out xI⟩
   case measure=>go_light;omega
  ·obtain rfl:k=len:=by omega
   have hz:¬(k:Int)<(k:Int):=by omega
   have HE:Hid (z=r):=by
    show _=_
    rw[HM.out,<-HR.out.1,chn,crc,HR.out.2.2,Lp (by rw[hr.hl];exact La _),OP _ (big 4 d++s.data.toList)]
   clear HM;go_wp2
   go_ret
   exact⟨by rw[HE.out];rfl,HB.out⟩
end St.Rc
namespace St
theorem Qc3(w:World)(a:OA)(g n c:Nat)(l:List UInt8)(b:OA)(h m d s:Nat)(l2:List UInt8)(ra:Rw w a g c l)(rb:Rw w b h d l2)(hn:l.length=n)(hm:l2.length=m)(hs1:s<=n)(hs2:s<=m)(hsame:l2.take s=l.take s)(hl:n<=140737488355328) :
  Calls prog 101 #[.agg #[.slice a n c,.slice b m d,.int .i64 s]] w fun e w'=> ∃b' h' d',e= .returned (fv a n c b' n d' n)∧Rw w' b' h' d' l∧Upo (fun x=>b=Zp h∧x=h) w w'∧((b'=b∧h'=h)∨(w.heap.size<=h'∧h'<w'.heap.size))∧(b=Zp h->Ty w' h 5):=by
 have h1:(0:Int)<=(s:Int):=by omega
 have h2:(s:Int)<=(n:Int):=by omega
 have h3:(s:Int)<=(d:Int):=by have:=rb.le;omega
 obtain⟨ax,hx⟩:=Ze (if c=s then a else a.map (·.add s))
 obtain⟨xJ,xK⟩:=QeG ra (by omega) hx hn
 have HH:Hid (Rw w a g c l∧Rw w b h d l2):=⟨ra,rb⟩;clear ra rb
 go_enter func101,ntmps101
 go_upto_region 1 with (fail)
 obtain⟨w1,xC⟩:=Ze ((w.alloc (.cells #[.slice a n c,.slice b m d,.int .i64 s] 129)).alloc (.cells #[.slice none 0 0,.slice none 0 0,.int .i64 0] 129));have xD:Bl w w1:=by rw[<-xC];exact bal (bal (Lb _ _) _) _
 have xO:w1.heap.size=w.heap.size+2:=by rw[<-xC];simp
 have k1:w1.heap[w.heap.size]? = some (.cells #[.slice a n c,.slice b m d,.int .i64 s] 129 (0,0)):=by rw[<-xC];exact new0 _ _ _
 have k2:w1.heap[w.heap.size+1]? = some (.cells #[.slice none 0 0,.slice none 0 0,.int .i64 0] 129 (0,0)):=by rw[<-xC];exact new2 _ _ _
 rw[xC];clear xC;have r1:Rw w1.drew a g c l:=(HH.out.1.next xD (La _)).same (fun _=>rfl)
 have r2:Rw w1.drew b h d (l2.take s):=((HH.out.2.next xD (La _)).cut (k:=s) (by omega)).same (W:=w1.drew) (fun _=>rfl)
 have ng:b=Zp h->h<w.heap.size:=fun e=>(HH.out.2.ty e).lt
 have xG:(l2.take s).length=s:=by simp;omega
 have xI:(l.drop s).length=n-s:=by simp;omega
 have xB:=r1.src (k:=s) (by omega) xJ (fun e=>(xK e).imp id (fun q=>by omega)) (c-s)
 rw[hn] at xB;obtain⟨b',h',d',w3,hr,r4,u3,xA,xF⟩:=r2.app 127 127 (.slice ax (n-s) (c-s)) (l.drop s) xB (by rw[xG,xI];omega)
 have el:l2.take s++l.drop s=l:=by rw[hsame,Nv]
 rw[el,hn,xG] at hr;rw[el] at r4;obtain⟨c0,c1,c2⟩:=Qp k1;have y1:w3.heap[w.heap.size]? = _:=(u3.block _ (by show _<w1.heap.size;omega) (fun q=>by have:=ng q.1;omega)).trans k1
 have y2:w3.heap[w.heap.size+1]? = _:=(u3.block _ (by show _<w1.heap.size;omega) (fun q=>by have:=ng q.1;omega)).trans k2
 have xM:w3.frozen? ⟨w.heap.size,1,none⟩=false:=frozen_of_row w3 w.heap.size 1 _ _ y1;obtain⟨_,xN,_⟩:=Qp y1;have z1:(w3.setCell ⟨w.heap.size,1,none⟩ (.slice b' n d')).heap[w.heap.size]? = some (.cells #[.slice a n c,.slice b' n d',.int .i64 s] 129 (0,0)):=Lm w3 w.heap.size 1 _ _ _ y1;have z2:(w3.setCell ⟨w.heap.size,1,none⟩ (.slice b' n d')).heap[w.heap.size+1]? = _:=(Below.heap_setCell _ _ _ _ (by simp)).trans y2
 have HF:Hid (Rw w3 b' h' d' l∧Upo (fun x=>b=Zp h∧x=h) w w3∧((b'=b∧h'=h)∨(w.heap.size+2<=h'∧h'<w3.heap.size))∧(b=Zp h->h<w.heap.size)∧(b=Zp h->Ty w3 h 5)):=⟨r4,(Upo.of xD).trans (show Upo _ w1 w3 from⟨u3.os,u3.tape,u3.output,u3.size,u3.block⟩) (fun _ _ q=>q),xA.imp id (fun q=>⟨by have:=q.1;show _<=_;rw[this];show _<=w1.heap.size;omega,q.2⟩),ng,xF⟩
 clear r4 u3 xA xF ng r1 r2 k1 k2 HH xD xO xB hsame el xG xI xJ xK hm hs1 hs2
 go_region_law (first
  | (refine QfT (by rfl) _ _ _ _ (by rfl) (by rfl) (by rfl) hr ?_))
 all_goals
  obtain⟨w4,xE⟩:=Ze (w3.setCell ⟨w.heap.size,1,none⟩ (.slice b' n d'));have xL:Hid (w3.setCell ⟨w.heap.size,1,none⟩ (.slice b' n d')=w4):=xE;rw[xE] at z1 z2;obtain⟨b0,b1,b2⟩:=Qp z1;have fz:=fun j=>frozen_of_row w4 w.heap.size j _ _ z1
  have fy:=fun j=>frozen_of_row w4 (w.heap.size+1) j _ _ z2
  obtain⟨d0,d1,d2⟩:=Qp z2;rw[xE];clear xE z1 xN xM c0 c1 c2 y1 y2 hr hx;have Z2:Hid (w4.heap[w.heap.size+1]? = some (.cells #[.slice none 0 0,.slice none 0 0,.int .i64 0] 129 (0,0))):=z2;clear z2;go_wp2;obtain⟨w5,xH⟩:=Ze ((((w4.setCell ⟨w.heap.size,2,none⟩ (.int .i64 n)).setCell ⟨w.heap.size+1,0,none⟩ (.slice a n c)).setCell ⟨w.heap.size+1,1,none⟩ (.slice b' n d')).setCell ⟨w.heap.size+1,2,none⟩ (.int .i64 n));obtain⟨r4,u4,xA,ng,xF⟩:=HF.out;have q:=Qp (QaC ((Below.heap_setCell w4 ⟨w.heap.size,2,none⟩ (.int .i64 n) (w.heap.size+1) (by simp)).trans Z2.out) (.slice a n c) (.slice b' n d') (.int .i64 n))
  rw[xH] at q;rw[xH];obtain⟨s0,s1,s2⟩:=q;refine LD (v:=fv a n c b' n d' n) (by simp[results,results101,go_sem,fv,s0,s1,s2]) rfl ⟨b',h',d',rfl,?_⟩
  rw[<-xH,<-xL.out];have n1:b'=Zp h'->h'≠w.heap.size∧h'≠w.heap.size+1:=fun e=>by
   rcases xA with ⟨q1,q2⟩|q
   ·have:=ng (by rw[<-q1,e,q2]);omega
   ·omega
  exact⟨((((r4.off _ _ fun e=>(n1 e).1).off _ _ fun e=>(n1 e).1).off _ _ fun e=>(n1 e).2).off _ _ fun e=>(n1 e).2).off _ _ fun e=>(n1 e).2,((((u4.set _ _ _ (.inr (by omega))).set _ _ _ (.inr (by omega))).set _ _ _ (.inr (by omega))).set _ _ _ (.inr (by omega))).set _ _ _ (.inr (by omega)),xA.imp id fun q=>⟨by omega,by simpa using q.2⟩,fun e=>(((((xF e).set _ _ _).set _ _ _).set _ _ _).set _ _ _).set _ _ _⟩
structure FR where
 a:OA
 g:Nat
 c:Nat
 b:OA
 h:Nat
 d:Nat
 s:Nat
def fr0:FR:=⟨none,0,0,none,0,0,0⟩
def Uc(f:FV)(r:FR):Value:=fv r.a f.now.length r.c r.b f.syn.length r.d r.s
structure Fil(w:World)(f:FV)(r:FR):Prop where
 now:Rw w r.a r.g r.c f.now
 syn:Rw w r.b r.h r.d f.syn
 s1:r.s<=f.now.length
 s2:r.s<=f.syn.length
 sm:f.syn.take r.s=f.now.take r.s
 ap:r.a=Zp r.g->r.b=Zp r.h->r.g≠r.h
 b1:f.now.length<=268435456
 b2:f.syn.length<=268435456
def Blk(r:FR)(x:Nat):Prop:=(r.a=Zp r.g∧x=r.g)∨(r.b=Zp r.h∧x=r.h)
theorem Fil.same{w W:World}{f:FV}{r:FR}(h:Fil w f r)(hb:∀x,Blk r x->W.heap[x]? = w.heap[x]?):Fil W f r :=
 ⟨h.now.same fun e=>hb _ (.inl ⟨e,rfl⟩),h.syn.same fun e=>hb _ (.inr ⟨e,rfl⟩),h.s1,h.s2,h.sm,h.ap,h.b1,h.b2⟩
theorem Fil.blk{w:World}{f:FV}{r:FR}(h:Fil w f r){x:Nat}(hx:Blk r x):Ty w x 5:=by
 rcases hx with ⟨e,rfl⟩|⟨e,rfl⟩
 ·exact h.now.ty e
 ·exact h.syn.ty e
theorem Qkw(w:World):Fil w fz fr0:=⟨Qey w 0,Qey w 0,La _,La _,rfl,fun e=>(by cases e),Ln _,Ln _⟩
theorem QjQ{x:Nat}(h:Blk fr0 x):False:=by
 rcases h with ⟨e,_⟩|⟨e,_⟩ <;> cases e
structure DV where
 free:Nat
 L:List (List UInt8×FV)
 acts:Nat
 fa:Int
 fk:Int
 ks:List Bool
 down:Bool
def Qg(L:List (List UInt8×FV)):List (List UInt8):=L.map (·.1)
def mapF(L:List (List UInt8×FV))(R:List UInt8->FR):List UInt8->Option Value:=fun s=>if s∈Qg L then some (Uc (Qe L s) (R s)) else none
structure Dk(w:World)(p m:Nat)(R:List UInt8->FR)(ka:OA)(kb ko kc:Nat)(D:DV)(ex:Option (List UInt8)):Prop where
 blk:w.heap[p]? = some (.cells #[.int .i64 D.free,.map (some m),.int .i64 D.acts,.int .i64 D.fa,.int .i64 D.fk,.slice ka D.ks.length kc,.bool D.down] 98 (0,0))
 mp:Mv w m (mapF D.L R)
 ord:Ord D.L
 fil:∀s∈Qg D.L,some s≠ex->Fil w (Qe D.L s) (R s)
 low:∀s∈Qg D.L,∀x,Blk (R s) x->Ty w x 5
 apart:∀s∈Qg D.L,∀t∈Qg D.L,s≠t -> ∀x,Blk (R s) x->Blk (R t) x->False
 nm:∀s∈Qg D.L,s.length<=maxLen
 cnt:D.L.length<=1099511627776
 kp:RdL w ka kb ko D.ks
 kt:0<D.ks.length->Ty w kb 4
 kl:D.ks.length<=140737488355328
 fr:D.free<=9223372036854775807
 ac:D.acts<=4611686018427387904
 ft:D.fk=0∨(1<=D.fk∧D.fk<=5∧1<=D.fa∧D.fa<=9223372036854775807)
def YC(p m:Nat)(R:List UInt8->FR)(kb:Nat)(D:DV)(x:Nat):Prop:=x=p∨x=m∨(∃s∈Qg D.L,Blk (R s) x)∨(0<D.ks.length∧x=kb)
section
variable {w W:World} {p m:Nat} {R:List UInt8->FR} {ka:OA} {kb ko kc:Nat} {D:DV} {ex:Option (List UInt8)}
variable{x:Nat}{L:List (List UInt8×FV)}
theorem Dk.lt(h:Dk w p m R ka kb ko kc D ex)(hx:YC p m R kb D x):x<w.heap.size:=by
 rcases hx with rfl|rfl|⟨s,hs,hx⟩|⟨h0,rfl⟩
 ·exact(Array.getElem?_eq_some_iff.1 h.blk).1
 ·exact h.mp.lt
 ·exact(h.low s hs x hx).lt
 ·exact(h.kt h0).lt
theorem Dk.same(h:Dk w p m R ka kb ko kc D ex)(hb:∀x,YC p m R kb D x->W.heap[x]? = w.heap[x]?):Dk W p m R ka kb ko kc D ex :=
 ⟨(hb p (.inl rfl)).trans h.blk,h.mp.same (hb m (.inr (.inl rfl))),h.ord,fun s hs he=>(h.fil s hs he).same fun x hx=>hb x (.inr (.inr (.inl ⟨s,hs,hx⟩))),fun s hs x hx=>(h.low s hs x hx).same (hb x (.inr (.inr (.inl ⟨s,hs,hx⟩)))),h.apart,h.nm,h.cnt,h.kp.same fun h0=>hb kb (.inr (.inr (.inr ⟨h0,rfl⟩))),fun h0=>(h.kt h0).same (hb kb (.inr (.inr (.inr ⟨h0,rfl⟩)))),h.kl,h.fr,h.ac,h.ft⟩
theorem Dk.next(h:Dk w p m R ka kb ko kc D ex)(hb:Bl w W):Dk W p m R ka kb ko kc D ex:=h.same fun x hx=>hb.block x (h.lt hx)
theorem Dk.cells(h:Dk w p m R ka kb ko kc D ex):w.cell? ⟨p,0,none⟩=some (.int .i64 D.free)∧w.cell? ⟨p,1,none⟩=some (.map (some m))∧w.cell? ⟨p,2,none⟩=some (.int .i64 D.acts)∧w.cell? ⟨p,3,none⟩=some (.int .i64 D.fa)∧w.cell? ⟨p,4,none⟩=some (.int .i64 D.fk)∧w.cell? ⟨p,5,none⟩=some (.slice ka D.ks.length kc)∧w.cell? ⟨p,6,none⟩=some (.bool D.down) :=
 ⟨by rw[cell_of_row w p 0 _ _ (0,0) h.blk];rfl,by rw[cell_of_row w p 1 _ _ (0,0) h.blk];rfl,by rw[cell_of_row w p 2 _ _ (0,0) h.blk];rfl,by rw[cell_of_row w p 3 _ _ (0,0) h.blk];rfl,by rw[cell_of_row w p 4 _ _ (0,0) h.blk];rfl,by rw[cell_of_row w p 5 _ _ (0,0) h.blk];rfl,by rw[cell_of_row w p 6 _ _ (0,0) h.blk];rfl⟩
theorem Dk.frz(h:Dk w p m R ka kb ko kc D ex)(j:Nat):w.frozen? ⟨p,j,none⟩=false:=frozen_of_row w p j _ _ h.blk
theorem Dk.pm(h:Dk w p m R ka kb ko kc D ex):p≠m:=by
 rintro rfl;obtain⟨D0,⟨es,c,h1,_⟩,_⟩:=h.mp;rw[h.blk] at h1
 cases h1
theorem Ty.mv{T:TypeId}{F:List UInt8->Option Value}(h:Ty w x T)(hm:Mv w m F):x≠m:=by
 rintro rfl;obtain⟨cs,fr,h⟩:=h;obtain⟨D0,⟨es,c,h1,_⟩,_⟩:=hm;rw[h] at h1
 cases h1
theorem Dk.other(h:Dk w p m R ka kb ko kc D ex)(hx:Ty w x 5):x≠p∧x≠m∧(0<D.ks.length->x≠kb) :=
 ⟨hx.ne ⟨_,_,h.blk⟩ (by decide),hx.mv h.mp,fun h0=>hx.ne (h.kt h0) (by decide)⟩
theorem Dk.kbp(h:Dk w p m R ka kb ko kc D ex)(h0:0<D.ks.length):kb≠p∧kb≠m:=⟨(h.kt h0).ne ⟨_,_,h.blk⟩ (by decide),(h.kt h0).mv h.mp⟩
theorem ON(h:Ord L):(Qg L).Nodup:=by
 refine List.pairwise_map.2 (h.1.imp fun {a b} hlt e=> ?_)
 rw[e] at hlt;exact NB _ hlt
theorem Qb9(L:List (List UInt8×FV))(R:List UInt8->FR)(s:List UInt8):s∈Qg L↔(mapF L R s).isSome=true:=by
 unfold mapF
 split
 ·simp[*]
 ·simp[*]
theorem JM(h:Ord L)(s:List UInt8)(f:FV)(t:List UInt8):t∈Qg (QL L s f)↔(if t=s then f.gone=false else t∈Qg L):=by
 have e:=QaS (Q3 h s f) (s:=t);rw[Qs h] at e
 by_cases hts:t=s
 ·subst hts;rw[Lf rfl] at e ⊢
  constructor
  ·intro hm
   cases hg:f.gone
   ·rfl
   ·exact absurd hm (e.1 hg)
  ·intro hg
   rcases Decidable.em (t∈Qg (QL L t f)) with q|q
   ·exact q
   ·rw[e.2 q] at hg;cases hg
 ·rw[Le hts] at e ⊢;have e2:=QaS h (s:=t);rw[e] at e2
  constructor
  ·intro hm
   rcases Decidable.em (t∈Qg L) with q|q
   ·exact q
   ·exact absurd hm (e2.2 q)
  ·intro hm
   rcases Decidable.em (t∈Qg (QL L s f)) with q|q
   ·exact q
   ·exact absurd hm (e2.1 q)
theorem Jt(s:List UInt8)(f:FV):(QL L s f).length<=L.length+1:=by
 induction L with
 | nil=>rw[QL];split <;> simp
 | cons q r ih=>
  obtain⟨t,g⟩:=q;rw[QL]
  split
  ·split <;> simp
   omega
  ·split
   ·split <;> simp
   ·simp;omega
theorem Dk.look(h:Dk w p m R ka kb ko kc D ex)(s:BA)(hs:s.size<=maxLen):∃r,(∀W,W.heap[m]? = w.heap[m]? -> (Instr.lookup 96 (.map (some m)) (.string s) false).run prog W= .ok (Uc (Qe D.L s.data.toList) r) W) ∧
  ((s.data.toList∈Qg D.L∧r=R s.data.toList)∨(s.data.toList ∉ Qg D.L∧r=fr0∧Qe D.L s.data.toList=fz)):=by
 have hz:∀W,(zeroValue 129).run prog W= .ok (Uc fz fr0) W:=fun W=>by kernel_rfl
 by_cases hm:s.data.toList∈Qg D.L
 ·refine⟨R s.data.toList,fun W hW=> ?_,.inl ⟨hm,rfl⟩⟩
  rw[(h.mp.same hW).look underlying96 (hz W) hs,mapF,Lf hm,Wf]
 ·refine⟨fr0,fun W hW=> ?_,.inr ⟨hm,rfl,YG hm⟩⟩
  rw[(h.mp.same hW).look underlying96 (hz W) hs,mapF,Le hm,We,YG hm]
end
def Ov(R:List UInt8->FR)(s:List UInt8)(r:FR):List UInt8->FR:=fun t=>if t=s then r else R t
def Q8(D:DV)(s:List UInt8)(f:FV):DV := { D with L:=QL D.L s f,free:=D.free+(Qe D.L s).now.length-f.now.length }
theorem Qfc{L:List (List UInt8×FV)}(h:Ord L)(R:List UInt8->FR)(s:List UInt8)(f:FV)(r:FR):mapF (QL L s f) (Ov R s r)=Ou (mapF L R) s (if f.gone then none else some (Uc f r)):=by
 funext t
 simp only[mapF,Ou,JM h,Qs h,Ov]
 by_cases e:t=s
 ·simp only[e,if_true]
  cases f.gone <;> simp
 ·simp only[e,if_false]
theorem Dk.put{w W:World}{p m:Nat}{R:List UInt8->FR}{ka:OA}{kb ko kc:Nat}{D:DV}{s:List UInt8}{f:FV}{r:FR}(h:Dk w p m R ka kb ko kc D (some s))(hf:Fil w f r)(hs:s.length<=maxLen)
  (hap:∀t∈Qg D.L,t≠s -> ∀x,Blk (R t) x->Blk r x->False) (hc:D.L.length<1099511627776) (hfr:D.free+(Qe D.L s).now.length-f.now.length<=9223372036854775807)
  (hblk:W.heap[p]? = some (.cells #[.int .i64 ((D.free+(Qe D.L s).now.length-f.now.length:Nat):Int),.map (some m),.int .i64 D.acts,.int .i64 D.fa,.int .i64 D.fk,.slice ka D.ks.length kc,.bool D.down] 98 (0,0)))
  (hmp:Mv W m (Ou (mapF D.L R) s (if f.gone then none else some (Uc f r)))) (hu:Upo (fun x=>x=p∨x=m) w W):Dk W p m (Ov R s r) ka kb ko kc (Q8 D s f) none:=by
 have kt:∀x,Ty w x 5->W.heap[x]? = w.heap[x]? := fun x hx=>hu.block x hx.lt (fun e=>by
  obtain⟨h1,h2,_⟩:=h.other hx
  rcases e with e|e
  ·exact h1 e
  ·exact h2 e)
 have kk:0<D.ks.length->W.heap[kb]? = w.heap[kb]? := fun h0=>hu.block kb (h.kt h0).lt (fun e=>by
  obtain⟨h1,h2⟩:=h.kbp h0
  rcases e with e|e
  ·exact h1 e
  ·exact h2 e)
 have xB:Fil W f r:=hf.same fun x hx=>kt x (hf.blk hx)
 have xA:∀t,t∈Qg (QL D.L s f)->t≠s->t∈Qg D.L:=fun t ht hne=>by
  have:=(JM h.ord s f t).1 ht
  rwa [Le hne] at this
 refine⟨hblk,by rw[show(Q8 D s f).L=QL D.L s f from rfl,Qfc h.ord];exact hmp,Q3 h.ord s f,fun t ht _=> ?_,fun t ht x hx=> ?_,fun t ht u hu' hne x hx hy=> ?_,fun t ht=> ?_,?_,h.kp.same kk,fun h0=>(h.kt h0).same (kk h0),h.kl,hfr,h.ac,h.ft⟩
 ·show Fil W (Qe (QL D.L s f) t) (Ov R s r t)
  rw[Qs h.ord,Ov]
  by_cases e:t=s
  ·rw[Lf e,Lf e];exact xB
  ·rw[Le e,Le e];have hk:=xA t ht e;exact(h.fil t hk (fun q=>e (by injection q))).same fun x hx=>kt x (h.low t hk x hx)
 ·simp only[Ov] at hx
  by_cases e:t=s
  ·rw[Lf e] at hx;exact xB.blk hx
  ·rw[Le e] at hx;have:=h.low t (xA t ht e) x hx;exact this.same (kt x this)
 ·simp only[Ov] at hx hy
  by_cases e:t=s
  ·rw[Lf e] at hx;have e2:u≠s:=fun q=>hne (e.trans q.symm)
   rw[Le e2] at hy;exact hap u (xA u hu' e2) e2 x hy hx
  ·rw[Le e] at hx
   by_cases e2:u=s
   ·rw[Lf e2] at hy;exact hap t (xA t ht e) e x hx hy
   ·rw[Le e2] at hy;exact h.apart t (xA t ht e) u (xA u hu' e2) hne x hx hy
 ·by_cases e:t=s
  ·rw[e];exact hs
  ·exact h.nm t (xA t ht e)
 ·have:=Jt (L:=D.L) s f
  show(QL D.L s f).length<=_
  omega
theorem QdO(w:World)(u v x:Value):(Instr.field 129 (.agg #[u,v,x]) 0).run prog w= .ok u w:=by kernel_rfl
theorem Qg9{w w':World}{ops:Array Oper}{rest:List Oper}{o:Oper}{a:Act}{Q:Exit->Act->World->Prop}(hg:o.guard=none)(x y:Operand)(t u:TypeId)(hop:o.op=Op.call { callee:=Callee.builtin Builtin.delete,args:=#[x,y],argTypes:=#[t,u] })
  {vx vy v':Value} (hx:a.eval x=vx) (hy:a.eval y=vy) (hr:(Builtin.delete_ #[t,u] o.type #[vx,vy]).run prog w= .ok v' w') (hK:wpList prog ops Q rest (a.put o.dst v') w'):wpList prog ops Q (o::rest) a w:=by
 refine wpList_plain hg fun K hK'=> ?_
 unfold Oper.wp;simp[execOp,hop,resolve,invoke,builtin,hx,hy,hr,Result.andThen];exact hK' _ _ hK
theorem Uv(w:World)(p m:Nat)(R:List UInt8->FR)(ka:OA)(kb ko kc:Nat)(D:DV)(s:BA)(f:FV)(r:FR)(h:Dk w p m R ka kb ko kc D (some s.data.toList))(hf:Fil w f r)(hs:s.size<=maxLen)
  (hap:∀t∈Qg D.L,t≠s.data.toList -> ∀x,Blk (R t) x->Blk r x->False) (hc:D.L.length<1099511627776) (hfr:D.free+(Qe D.L s.data.toList).now.length<=9223372036854775807) (hle:f.now.length<=D.free+(Qe D.L s.data.toList).now.length) :
  Calls prog 248 #[Pq p,.string s,Uc f r] w fun e w'=>e= .returned (.tuple #[])∧Dk w' p m (Ov R s.data.toList r) ka kb ko kc (Q8 D s.data.toList f) none∧Upo (fun x=>x=p∨x=m) w w':=by
 obtain⟨r0,hl,_⟩:=h.look s hs;obtain⟨N0,xB⟩:=Ze ((Qe D.L s.data.toList).now.length);obtain⟨N,hN⟩:=Ze f.now.length;obtain⟨M,hM⟩:=Ze f.syn.length;obtain⟨M0,xD⟩:=Ze ((Qe D.L s.data.toList).syn.length);obtain⟨F,hF⟩:=Ze D.free;obtain⟨G,hG⟩:=Ze (D.free+(Qe D.L s.data.toList).now.length-f.now.length);have HG:Hid (D.free+(Qe D.L s.data.toList).now.length-f.now.length=G∧(Qe D.L s.data.toList).now.length=N0∧f.now.length=N∧f.syn.length=M):=⟨hG,xB,hN,hM⟩;have HH:Hid (Dk w p m R ka kb ko kc D (some s.data.toList)∧Fil w f r∧(∀t∈Qg D.L,t≠s.data.toList -> ∀x,Blk (R t) x->Blk r x->False)∧D.L.length<1099511627776∧D.free+(Qe D.L s.data.toList).now.length-f.now.length<=9223372036854775807):=⟨h,hf,hap,hc,by omega⟩
 simp only[Uc,fv,xB,xD] at hl;have e1:IntKind.i64.wrap ((N0:Int)-(N:Int))=(N0:Int)-(N:Int):=by
  have:=hf.b1;rw[Lq];omega
 have e2:IntKind.i64.wrap ((F:Int)+((N0:Int)-(N:Int)))=(G:Int):=by rw[Lq];omega
 have hb:Bl w (w.alloc (.cells #[.slice r.a N r.c,.slice r.b M r.d,.int .i64 r.s] 129)):=bal (Lb _ _) _;have h1:=h.next hb;rw[Uc,fv,hN,hM];obtain⟨ra,rg,rc,rb,rh,rd,rs⟩:=r;simp only at hb h1 ⊢;obtain⟨w1,xF⟩:=Ze (w.alloc (.cells #[.slice ra N rc,.slice rb M rd,.int .i64 rs] 129));have k1:w1.heap[w.heap.size]? = some (.cells #[.slice ra N rc,.slice rb M rd,.int .i64 rs] 129 (0,0)):=by rw[<-xF];exact Yc _ _
 rw[xF] at hb h1;obtain⟨c0,c1,c2,c3,c4,c5,c6⟩:=h1.cells;have f0:=h1.frz 0;rw[hF] at c0;have xL:=hl w1.drew (hb.block m h.mp.lt);have HW:Hid (w.alloc (.cells #[.slice ra N rc,.slice rb M rd,.int .i64 rs] 129)=w1):=xF;have HB:Hid (Bl w w1∧Dk w1 p m R ka kb ko kc D (some s.data.toList)∧p≠w.heap.size∧p≠m):=⟨hb,h1,by have:=h.lt (.inl rfl);omega,h.pm⟩
 obtain⟨b0,b1,b2⟩:=Qp k1;have xK:=QdO;clear h hf hap hc hfr hle hl xB hN hM xD hF hG hb h1 xF
 go_enter func248,ntmps248
 go_upto_region 1 with (fail)
 rw[HW.out]
 go_region
 obtain⟨w2,xG⟩:=Ze ((w1.setCell ⟨p,0,none⟩ (.int .i64 G)).drew);have xE:Upo (fun x=>x=p) w1 w2:=by rw[<-xG];exact((Upo.refl (fun x=>x=p) w1).set p 0 _ (.inl rfl)).drew
 have j2:w2.heap[p]? = some (.cells #[.int .i64 G,.map (some m),.int .i64 D.acts,.int .i64 D.fa,.int .i64 D.fk,.slice ka D.ks.length kc,.bool D.down] 98 (0,0)):=by
  rw[<-xG];exact Lm w1 p 0 _ _ _ HB.out.2.1.blk
 have k2:w2.heap[w.heap.size]? = some (.cells #[.slice ra N rc,.slice rb M rd,.int .i64 rs] 129 (0,0)):=(xE.block _ (Array.getElem?_eq_some_iff.1 k1).1 (fun e=>HB.out.2.2.1 e.symm)).trans k1
 have m2:Mv w2 m (mapF D.L R):=HB.out.2.1.mp.same (xE.block m HB.out.2.1.mp.lt (fun e=>HB.out.2.2.2 e.symm))
 have xJ:Hid (Upo (fun x=>x=p) w w2):=(Upo.of HB.out.1).trans xE (fun _ _ q=>q)
 rw[xG];clear xG xL c0 c1 c2 c3 c4 c5 c6 f0 b0 b1 b2 k1 e1 e2;obtain⟨b0,b1,b2⟩:=Qp k2;have c1:w2.cell? ⟨p,1,none⟩=some (.map (some m)):=by rw[cell_of_row w2 p 1 _ _ (0,0) j2];rfl
 have J2:Hid (w2.heap[p]? = some (.cells #[.int .i64 G,.map (some m),.int .i64 D.acts,.int .i64 D.fa,.int .i64 D.fk,.slice ka D.ks.length kc,.bool D.down] 98 (0,0))∧Mv w2 m (mapF D.L R)):=⟨j2,m2⟩;have xC:Hid (∀W,Mv W m (Ou (mapF D.L R) s.data.toList (if f.gone then none else some (Uc f ⟨ra,rg,rc,rb,rh,rd,rs⟩)))->w2.grownBy W (some m)->Dk W p m (Ov R s.data.toList ⟨ra,rg,rc,rb,rh,rd,rs⟩) ka kb ko kc (Q8 D s.data.toList f) none∧Upo (fun x=>x=p∨x=m) w W):=fun W hm hg=>by
  have hu:Upo (fun x=>x=p∨x=m) w W:=(xJ.out.mono (T:=fun x=>x=p∨x=m) (fun _ _ q=> .inl q)).trans (Upo.grown (S:=fun x=>x=m) hg (fun b e=>by injection e with e;exact e.symm)) (fun _ _ q=> .inr q)
  refine⟨HH.out.1.put HH.out.2.1 (by rw[Qb];exact hs) HH.out.2.2.1 HH.out.2.2.2.1 HH.out.2.2.2.2 ?_ hm hu,hu⟩
  rw[HG.out.1];exact(hg.block p (Array.getElem?_eq_some_iff.1 J2.out.1).1 (fun e=>HB.out.2.2.2 (by injection e))).trans J2.out.1
 clear j2 k2 m2 xE
 by_cases hgo:f.gone=true
 ·have xH:=U3.1 hgo;obtain⟨rfl,rfl⟩:N=0∧M=0:=⟨HG.out.2.2.1.symm.trans xH.1,HG.out.2.2.2.symm.trans xH.2⟩;obtain⟨w3,hd,m3,g3⟩:=J2.out.2.drop underlying96 hs 0;have HQ:Hid _:=xC.out w3 (by rw[hgo];exact m3) g3
  clear hgo xH m3 g3
  go_wp2_with (refine Qg9 (by rfl) _ _ _ _ (by rfl) (by rfl) (by rfl) hd ?_)
  refine LD (v := .tuple #[]) (by simp[results,results248,go_sem]) rfl ⟨rfl,HQ.out⟩
 ·obtain⟨w3,hd,m3,g3⟩:=(J2.out.2.same (W:=w2.drew) rfl).write underlying96 (ON HH.out.1.ord) (Qb9 D.L R) (by have:=HH.out.2.2.2.1;simp only[Qg,List.length_map];unfold maxLen;omega) hs (Uc f ⟨ra,rg,rc,rb,rh,rd,rs⟩)
  have xI:f.gone=false:=by simpa using hgo
  have HQ:Hid _:=xC.out w3 (by rw[xI];exact m3) ⟨g3.os,g3.tape,g3.output,g3.size,g3.block⟩
  have xA:(((N:Int) == 0) && ((M:Int) == 0))=false:=by
   have:¬(N=0∧M=0):=fun e=>hgo (U3.2 ⟨HG.out.2.2.1.trans e.1,HG.out.2.2.2.trans e.2⟩)
   by_cases h1:N=0
   ·have h2:M≠0:=fun e=>this ⟨h1,e⟩
    simp[h1,h2]
   ·simp[h1]
  simp only[Uc,fv,HG.out.2.2.1,HG.out.2.2.2] at hd;clear hgo xI m3 g3
  by_cases xB:N=0
  ·have xD:((M:Int) == 0)=false:=by simpa [xB] using xA
   have xM:¬((M:Int)=0):=by simpa using xD
   subst xB;clear xA
   go_upto_region 4 with (fail)
   go_region
   all_goals
    go_wp2
    go_end0
    exact⟨rfl,HQ.out⟩
  ·have xN:((N:Int) == 0)=false:=by simpa using xB
   have xO:¬((N:Int)=0):=by omega
   clear xA xB
   go_upto_region 4 with (fail)
   go_region
   all_goals
    go_wp2
    go_end0
    exact⟨rfl,HQ.out⟩
theorem Qc{p:Prop}(h:p):Hid p:=h
section
variable {w W:World} {p m:Nat} {R:List UInt8->FR} {ka:OA} {kb ko kc:Nat} {D:DV}
theorem Qkp(w:World)(h:Dk w p m R ka kb ko kc D none):Re 15 #[Pq p] w (.bool D.down):=by
 obtain⟨c0,c1,c2,c3,c4,c5,c6⟩:=h.cells;clear h
 go_enter func15,ntmps15;go_wp2
 go_ret
 exact⟨rfl,rfl⟩
theorem Qcz(w:World)(h:Dk w p m R ka kb ko kc D none)(s:BA)(hs:s.size<=maxLen)(n:Nat)(hn:Hid ((if D.down then 0 else (Qe D.L s.data.toList).now.length)=n)) :
  Re 151 #[Pq p,.string s] w (.int .i64 n):=by
 obtain⟨c0,c1,c2,c3,c4,c5,c6⟩:=h.cells;obtain⟨r,hl,_⟩:=h.look s hs;have xB:=hl w rfl;have xC:=QdO
 cases hd:D.down
 ·have xA:(Qe D.L s.data.toList).now.length=n:=by have:=hn.out;simpa [hd] using this
  simp only[Uc,fv,xA] at xB;rw[hd] at c6;clear h hd hl hn xA
  go_enter func151,ntmps151;go_wp2
  go_ret
  exact⟨rfl,rfl⟩
 ·have xA:0=n:=by have:=hn.out;simpa [hd] using this
  subst xA;rw[hd] at c6;clear h hd hl hn xB
  go_enter func151,ntmps151;go_wp2
  go_ret
  exact⟨rfl,rfl⟩
theorem Dk.re{ex:Option (List UInt8)}(h:Dk w p m R ka kb ko kc D ex)(hu:Upo (fun x=>x=p) w W){D':DV}(hL:D'.L=D.L){ka':OA}{kc':Nat}
  (hblk:W.heap[p]? = some (.cells #[.int .i64 D'.free,.map (some m),.int .i64 D'.acts,.int .i64 D'.fa,.int .i64 D'.fk,.slice ka' D'.ks.length kc',.bool D'.down] 98 (0,0)))
  (hk:(D'.ks=D.ks∧ka'=ka)∨D'.ks=[]) (fr:D'.free<=9223372036854775807) (ac:D'.acts<=4611686018427387904) (ft:D'.fk=0∨(1<=D'.fk∧D'.fk<=5∧1<=D'.fa∧D'.fa<=9223372036854775807)):Dk W p m R ka' kb ko kc' D' ex:=by
 have ky:∀x,Ty w x 5->W.heap[x]? = w.heap[x]? := fun x hx=>hu.block x hx.lt (h.other hx).1
 have kk:0<D.ks.length->W.heap[kb]? = w.heap[kb]? := fun h0=>hu.block kb (h.kt h0).lt (h.kbp h0).1
 refine⟨hblk,by rw[hL];exact h.mp.same (hu.block m h.mp.lt fun e=>h.pm e.symm),by rw[hL];exact h.ord,by rw[hL];exact fun s hs he=>(h.fil s hs he).same fun x hx=>ky x (h.low s hs x hx),by rw[hL];exact fun s hs x hx=>(h.low s hs x hx).same (ky x (h.low s hs x hx)),by rw[hL];exact h.apart,by rw[hL];exact h.nm,by rw[hL];exact h.cnt,?_,?_,?_,fr,ac,ft⟩
 ·rcases hk with ⟨e1,e2⟩|e1
  ·rw[e1,e2];exact h.kp.same kk
  ·rw[e1];exact Uw _ _ _ _
 ·rcases hk with ⟨e1,e2⟩|e1
  ·rw[e1];exact fun h0=>(h.kt h0).same (kk h0)
  ·rw[e1];intro h0;simp at h0
 ·rcases hk with ⟨e1,e2⟩|e1
  ·rw[e1];exact h.kl
  ·rw[e1];simp
def Yj(D:DV):DV×Int×List Bool:=if D.fk=0 then (D,0,[]) else if 1<D.fa then ({ D with fa:=D.fa-1 },0,[]) else ({ D with fa:=0,fk:=0,ks:=[] },D.fk,D.ks)
def Qbe(a k:Int)(ka:OA)(n kc:Nat):Value := .agg #[.int .i64 a,.int .i64 k,.slice ka n kc]
theorem Qnm(w:World)(h:Dk w p m R ka kb ko kc D none):Calls prog 329 #[Pq p] w fun e w'=> ∃ka' kc' qa qc x,e= .returned (Qbe x (Yj D).2.1 qa (Yj D).2.2.length qc)∧Dk w' p m R ka' kb ko kc' (Yj D).1 none∧RdL w' qa kb ko (Yj D).2.2∧Upo (fun x=>x=p) w w':=by
 have xF:=h.lt (.inl rfl);have HH:Hid (Dk w p m R ka kb ko kc D none):=h;obtain⟨w1,xH⟩:=Ze (w.alloc (.cells #[.int .i64 0,.int .i64 0,.slice none 0 0] 37));have HW:Hid (w.alloc (.cells #[.int .i64 0,.int .i64 0,.slice none 0 0] 37)=w1):=xH;have hb:Bl w w1:=by rw[<-xH];exact bal (Lb _ _) _
 have k1:w1.heap[w.heap.size]? = some (.cells #[.int .i64 0,.int .i64 0,.slice none 0 0] 37 (0,0)):=by rw[<-xH];exact Yc _ _
 have h1:=h.next hb;obtain⟨c0,c1,c2,c3,c4,c5,c6⟩:=h1.cells;have fz:=fun j=>h1.frz j
 have fy:=fun j=>frozen_of_row w1 w.heap.size j _ _ k1
 obtain⟨b0,b1,b2⟩:=Qp k1;have HB:Hid (Bl w w1∧Dk w1 p m R ka kb ko kc D none∧p<w.heap.size∧w1.heap[w.heap.size]? = some (.cells #[.int .i64 0,.int .i64 0,.slice none 0 0] 37 (0,0))):=⟨hb,h1,xF,k1⟩;have ft:=h.ft;clear h hb h1 k1 xH xF
 by_cases hk:D.fk=0
 ·have e1:Yj D=(D,0,[]):=by rw[Yj,Lf hk]
  rw[e1];rw[hk] at c4;clear hk e1 ft
  go_enter func329,ntmps329
  go_upto_region 1 with (fail)
  rw[HW.out];go_wp2;obtain⟨w5,xA⟩:=Ze (((w1.setCell ⟨w.heap.size,0,none⟩ (.int .i64 0)).setCell ⟨w.heap.size,1,none⟩ (.int .i64 0)).setCell ⟨w.heap.size,2,none⟩ (.slice none 0 0));have q:=Qp (QaC HB.out.2.2.2 (.int .i64 0) (.int .i64 0) (.slice none 0 0));rw[xA] at q;rw[xA];obtain⟨s0,s1,s2⟩:=q;have xK:Bl w w5:=by
   rw[<-xA];exact((HB.out.1.setCell (p:=⟨w.heap.size,0,none⟩) (La _) _).setCell (p:=⟨w.heap.size,1,none⟩) (La _) _).setCell (p:=⟨w.heap.size,2,none⟩) (La _) _
  refine LD (v:=Qbe 0 0 none 0 0) (by simp[results,results329,go_sem,Qbe,s0,s1,s2]) rfl ⟨ka,kc,none,0,0,rfl,HH.out.next xK,Uw _ _ _ _,Upo.of xK⟩
 ·have xS:(D.fk == 0)=false:=by simpa using hk
  obtain⟨f1,f2,f3,f4⟩:=ft.resolve_left hk;have e0:IntKind.i64.wrap (D.fa-1)=D.fa-1:=by rw[Lq];omega
  obtain⟨y,hy⟩:=Ze (D.fa-1);rw[show(IntKind.i64.wrap (D.fa-1)=D.fa-1)↔(IntKind.i64.wrap (D.fa-1)=y) by rw[hy]] at e0
  obtain⟨w2,xB⟩:=Ze (w1.setCell ⟨p,3,none⟩ (.int .i64 y));have xJ:Hid (w1.setCell ⟨p,3,none⟩ (.int .i64 y)=w2):=xB;have j2:w2.heap[p]? = some (.cells #[.int .i64 D.free,.map (some m),.int .i64 D.acts,.int .i64 y,.int .i64 D.fk,.slice ka D.ks.length kc,.bool D.down] 98 (0,0)):=by
   rw[<-xB];exact Lm w1 p 3 _ _ _ HB.out.2.1.blk
  have xC:Upo (fun x=>x=p) w w2:=by rw[<-xB];exact(Upo.of HB.out.1).set p 3 _ (.inl rfl)
  have k2:w2.heap[w.heap.size]? = some (.cells #[.int .i64 0,.int .i64 0,.slice none 0 0] 37 (0,0)):=by
   rw[<-xB];exact(Below.heap_setCell _ _ _ _ (by have:=HB.out.2.2.1;show w.heap.size≠p;omega)).trans HB.out.2.2.2
  obtain⟨b0,b1,b2⟩:=Qp k2;have xQ:=fun j=>frozen_of_row w2 w.heap.size j _ _ k2
  have xR:=fun j=>frozen_of_row w2 p j _ _ j2
  have d3:w2.cell? ⟨p,3,none⟩=some (.int .i64 y):=by rw[cell_of_row w2 p 3 _ _ (0,0) j2];rfl
  have d4:w2.cell? ⟨p,4,none⟩=some (.int .i64 D.fk):=by rw[cell_of_row w2 p 4 _ _ (0,0) j2];rfl
  have d5:w2.cell? ⟨p,5,none⟩=some (.slice ka D.ks.length kc):=by rw[cell_of_row w2 p 5 _ _ (0,0) j2];rfl
  have HJ:Hid (w2.heap[p]? = some (.cells #[.int .i64 D.free,.map (some m),.int .i64 D.acts,.int .i64 y,.int .i64 D.fk,.slice ka D.ks.length kc,.bool D.down] 98 (0,0))∧Upo (fun x=>x=p) w w2∧w2.heap[w.heap.size]? = some (.cells #[.int .i64 0,.int .i64 0,.slice none 0 0] 37 (0,0))∧p<w.heap.size∧w2.heap.size=w.heap.size+1):=⟨j2,xC,k2,HB.out.2.2.1,by rw[<-xB,<-HW.out];simp⟩
  clear xB j2 xC k2
  by_cases hy0:0<y
  ·have e1:Yj D=({ D with fa:=y },0,[]):=by rw[Yj,Le hk,Lf (by omega),hy]
   rw[e1];have HD:Hid (∀W,Bl w2 W∨(Upo (fun x=>x=w.heap.size) w2 W)->Dk W p m R ka kb ko kc { D with fa:=y } none∧Upo (fun x=>x=p) w W):=fun W hW=>by
    have hu:Upo (fun x=>x=p) w W:=HJ.out.2.1.trans (T:=fun x=>x=w.heap.size) (hW.elim (fun q=>Upo.of q) id) (fun b hb e=>by omega)
    refine⟨HH.out.re (D' := { D with fa:=y }) hu rfl ?_ (.inl ⟨rfl,rfl⟩) HH.out.fr HH.out.ac (.inr ⟨f1,f2,by show 1<=y;omega,by show y<=_;omega⟩),hu⟩
    refine Eq.trans ?_ HJ.out.1
    rcases hW with q|q
    ·exact q.block p (by have:=HJ.out.2.2.2;omega)
    ·exact q.block p (by have:=HJ.out.2.2.2;omega) (fun e=>by have:=HJ.out.2.2.2.1;omega)
   have xN:¬D.fk=0:=hk;clear e1 f1 f2 f3 f4 hy ft hk HB
   go_enter func329,ntmps329
   go_upto_region 1 with (fail)
   rw[HW.out]
   go_upto_region 4 with (fail)
   rw[xJ.out];go_wp2;obtain⟨w5,xA⟩:=Ze (((w2.setCell ⟨w.heap.size,0,none⟩ (.int .i64 0)).setCell ⟨w.heap.size,1,none⟩ (.int .i64 0)).setCell ⟨w.heap.size,2,none⟩ (.slice none 0 0));have q:=Qp (QaC HJ.out.2.2.1 (.int .i64 0) (.int .i64 0) (.slice none 0 0));rw[xA] at q;rw[xA];obtain⟨s0,s1,s2⟩:=q;obtain⟨hD,hU⟩:=HD.out w5 (.inr (by rw[<-xA];exact(((Upo.refl (fun x=>x=w.heap.size) w2).set _ _ _ (.inl rfl)).set _ _ _ (.inl rfl)).set _ _ _ (.inl rfl)))
   refine LD (v:=Qbe 0 0 none 0 0) (by simp[results,results329,go_sem,Qbe,s0,s1,s2]) rfl ⟨ka,kc,none,0,0,rfl,hD,Uw _ _ _ _,hU⟩
  ·have e1:Yj D=({ D with fa:=0,fk:=0,ks:=[] },D.fk,D.ks):=by rw[Yj,Le hk,Le (by omega)]
   rw[e1];have xN:¬D.fk=0:=hk;obtain rfl:y=0:=by omega
   clear e1 f1 f2 f3 f4 hy ft hk HB hy0
   go_enter func329,ntmps329
   go_upto_region 1 with (fail)
   rw[HW.out]
   go_upto_region 4 with (fail)
   rw[xJ.out]
   go_upto_region 7 with (fail)
   obtain⟨w3,xD⟩:=Ze (w2.alloc (.cells #[.int .i64 0,.int .i64 D.fk,.slice ka D.ks.length kc] 37));rw[xD];obtain⟨j2,xC,k2,xF,xO⟩:=HJ.out;have xE:Bl w2 w3:=by rw[<-xD];exact bal (Lb _ _) _
   have j3:=(xE.block p (by omega)).trans j2
   have k3:=(xE.block w.heap.size (by omega)).trans k2
   have n3:w3.heap[w2.heap.size]? = some (.cells #[.int .i64 0,.int .i64 D.fk,.slice ka D.ks.length kc] 37 (0,0)):=by rw[<-xD];exact Yc _ _
   have a3:w3.cell? ⟨p,3,none⟩=some (.int .i64 0):=by rw[cell_of_row w3 p 3 _ _ (0,0) j3];rfl
   have a4:w3.cell? ⟨p,4,none⟩=some (.int .i64 D.fk):=by rw[cell_of_row w3 p 4 _ _ (0,0) j3];rfl
   have a5:w3.cell? ⟨p,5,none⟩=some (.slice ka D.ks.length kc):=by rw[cell_of_row w3 p 5 _ _ (0,0) j3];rfl
   have g3:=fun j=>frozen_of_row w3 p j _ _ j3
   obtain⟨w4,xI⟩:=Ze (((w3.setCell ⟨p,3,none⟩ (.int .i64 0)).setCell ⟨p,4,none⟩ (.int .i64 0)).setCell ⟨p,5,none⟩ (.slice none 0 0));have xM:Hid (((w3.setCell ⟨p,3,none⟩ (.int .i64 0)).setCell ⟨p,4,none⟩ (.int .i64 0)).setCell ⟨p,5,none⟩ (.slice none 0 0)=w4):=xI;have xG:Upo (fun x=>x=p) w3 w4:=by rw[<-xI];exact(((Upo.refl (fun x=>x=p) w3).set _ _ _ (.inl rfl)).set _ _ _ (.inl rfl)).set _ _ _ (.inl rfl)
   have j4:w4.heap[p]? = some (.cells #[.int .i64 D.free,.map (some m),.int .i64 D.acts,.int .i64 0,.int .i64 0,.slice none 0 0,.bool D.down] 98 (0,0)):=by
    rw[<-xI];have q1:(w3.setCell ⟨p,3,none⟩ (.int .i64 0)).heap[p]? = some (.cells #[.int .i64 D.free,.map (some m),.int .i64 D.acts,.int .i64 0,.int .i64 D.fk,.slice ka D.ks.length kc,.bool D.down] 98 (0,0)):=Lm w3 p 3 _ _ _ j3;have q2:((w3.setCell ⟨p,3,none⟩ (.int .i64 0)).setCell ⟨p,4,none⟩ (.int .i64 0)).heap[p]? = some (.cells #[.int .i64 D.free,.map (some m),.int .i64 D.acts,.int .i64 0,.int .i64 0,.slice ka D.ks.length kc,.bool D.down] 98 (0,0)):=Lm _ p 4 _ _ _ q1;exact Lm _ p 5 _ _ _ q2
   have xP:w3.heap.size=w2.heap.size+1:=by rw[<-xD];simp
   have n4:=(xG.block w2.heap.size (by omega) (fun e=>by omega)).trans n3
   have k4:=(xG.block w.heap.size (by omega) (fun e=>by omega)).trans k3
   obtain⟨x0,x1,x2⟩:=Qp n4;obtain⟨z0,z1,z2⟩:=Qp k4;have gz:=fun j=>frozen_of_row w4 w.heap.size j _ _ k4
   have HF:Hid (w4.heap[p]? = some (.cells #[.int .i64 D.free,.map (some m),.int .i64 D.acts,.int .i64 0,.int .i64 0,.slice none 0 0,.bool D.down] 98 (0,0))∧Upo (fun x=>x=p) w w4∧w4.heap[w.heap.size]? = some (.cells #[.int .i64 0,.int .i64 0,.slice none 0 0] 37 (0,0))∧p<w.heap.size):=⟨j4,(xC.next xE).trans xG (fun _ _ q=>q),k4,xF⟩
   clear xD xI j2 xC k2 xO xE j3 k3 n3 xG j4 xP n4 k4 HJ
   go_upto_region 8 with (fail)
   rw[xM.out];go_wp2;obtain⟨w5,xA⟩:=Ze (((w4.setCell ⟨w.heap.size,0,none⟩ (.int .i64 0)).setCell ⟨w.heap.size,1,none⟩ (.int .i64 D.fk)).setCell ⟨w.heap.size,2,none⟩ (.slice ka D.ks.length kc));have q:=Qp (QaC HF.out.2.2.1 (.int .i64 0) (.int .i64 D.fk) (.slice ka D.ks.length kc));rw[xA] at q;rw[xA];obtain⟨s0,s1,s2⟩:=q;have xL:Upo (fun x=>x=w.heap.size) w4 w5:=by rw[<-xA];exact(((Upo.refl (fun x=>x=w.heap.size) w4).set _ _ _ (.inl rfl)).set _ _ _ (.inl rfl)).set _ _ _ (.inl rfl)
   have hU:Upo (fun x=>x=p) w w5:=HF.out.2.1.trans xL (fun b hb e=>by omega)
   have hD:Dk w5 p m R none kb ko 0 { D with fa:=0,fk:=0,ks:=[] } none:=HH.out.re (D' := { D with fa:=0,fk:=0,ks:=[] }) hU rfl ((xL.block p (by have:=HF.out.2.2.2;have:=HF.out.2.1.size;omega) (fun e=>by have:=HF.out.2.2.2;omega)).trans HF.out.1) (.inr rfl) HH.out.fr HH.out.ac (.inl rfl)
   refine LD (v:=Qbe 0 D.fk ka D.ks.length kc) (by simp[results,results329,go_sem,Qbe,s0,s1,s2]) rfl ⟨none,0,ka,kc,0,rfl,hD,HH.out.kp.same fun h0=>hU.block kb (HH.out.kt h0).lt (HH.out.kbp h0).1,hU⟩
end
end St
namespace St
open Go.Shelf
def Tryz.lays190_ren:Go.Shelf.Ren:=⟨fun|190=>180|125=>275|258=>274|128=>356|129=>357|302=>347|303=>348|304=>349|305=>350|306=>351|307=>352|308=>353|309=>354|310=>355|333=>397|329=>398|330=>399|334=>400|335=>401|336=>402|344=>410|n=>n,fun|31=>22|9=>9|3=>3|46=>276|0=>0|51=>110|53=>48|4=>4|183=>395|182=>394|131=>398|5=>5|218=>422|222=>425|228=>435|229=>436|n=>n,fun|n=>n⟩
theorem Tryz.lays190:Go.Proofs.Lays.n190 prog Tryz.lays190_ren := {
 mixed:=by kernel_rfl
 f125:=func275.trans (Lv some (by kernel_rfl))
 f128:=func356.trans (Lv some (by kernel_rfl))
 f129:=func357.trans (Lv some (by kernel_rfl))
 f190:=func180.trans (Lv some (by kernel_rfl))
 f258:=func274.trans (Lv some (by kernel_rfl))
 f302:=func347.trans (Lv some (by kernel_rfl))
 f303:=func348.trans (Lv some (by kernel_rfl))
 f304:=func349.trans (Lv some (by kernel_rfl))
 f305:=func350.trans (Lv some (by kernel_rfl))
 f306:=func351.trans (Lv some (by kernel_rfl))
 f307:=func352.trans (Lv some (by kernel_rfl))
 f308:=func353.trans (Lv some (by kernel_rfl))
 f309:=func354.trans (Lv some (by kernel_rfl))
 f310:=func355.trans (Lv some (by kernel_rfl))
 f329:=func398.trans (Lv some (by kernel_rfl))
 f330:=func399.trans (Lv some (by kernel_rfl))
 f333:=func397.trans (Lv some (by kernel_rfl))
 f334:=func400.trans (Lv some (by kernel_rfl))
 f335:=func401.trans (Lv some (by kernel_rfl))
 f336:=func402.trans (Lv some (by kernel_rfl))
 f344:=func410.trans (Lv some (by kernel_rfl))
 t0:=underlying0
 a0:=Tryz.isAgg0
 z0:=Tryz.sizeOf0
 v0:=Tryz.zeroValue0
 t3:=underlying3
 a3:=Tryz.isAgg3
 z3:=Tryz.sizeOf3
 v3:=Tryz.zeroValue3
 t4:=underlying4
 a4:=Tryz.isAgg4
 z4:=Tryz.sizeOf4
 v4:=Tryz.zeroValue4
 t5:=underlying5
 a5:=Tryz.isAgg5
 z5:=Tryz.sizeOf5
 v5:=Tryz.zeroValue5
 t9:=underlying9
 a9:=Tryz.isAgg9
 z9:=Tryz.sizeOf9
 v9:=Tryz.zeroValue9
 t31:=underlying22
 a31:=Tryz.isAgg22
 z31:=Tryz.sizeOf22
 v31:=Tryz.zeroValue22
 t46:=underlying276
 a46:=Tryz.isAgg276
 z46:=Tryz.sizeOf276
 v46:=Tryz.zeroValue276
 t51:=underlying110
 a51:=Tryz.isAgg110
 z51:=Tryz.sizeOf110
 v51:=Tryz.zeroValue110
 t53:=underlying48
 a53:=Tryz.isAgg48
 z53:=Tryz.sizeOf48
 v53:=Tryz.zeroValue48
 t131:=underlying398
 a131:=Tryz.isAgg398
 z131:=Tryz.sizeOf398
 v131:=Tryz.zeroValue398
 t182:=underlying394
 a182:=Tryz.isAgg394
 z182:=Tryz.sizeOf394
 v182:=Tryz.zeroValue394
 t183:=underlying395
 a183:=Tryz.isAgg395
 z183:=Tryz.sizeOf395
 v183:=Tryz.zeroValue395
 t218:=underlying422
 a218:=Tryz.isAgg422
 z218:=Tryz.sizeOf422
 v218:=Tryz.zeroValue422
 t222:=underlying425
 a222:=Tryz.isAgg425
 z222:=Tryz.sizeOf425
 v222:=Tryz.zeroValue425
 t228:=underlying435
 a228:=Tryz.isAgg435
 z228:=Tryz.sizeOf435
 v228:=Tryz.zeroValue435
 t229:=underlying436
 a229:=Tryz.isAgg436
 z229:=Tryz.sizeOf436
 v229:=Tryz.zeroValue436 }
open Go.Sort Go.RowKit in
theorem Tryz.slices_Sort_string(blk off cap:Nat)(ss:List (List UInt8))(w:World)(hH:Holds encStr w blk off ss.toArray)(hblk:blk<w.heap.size)(hsz:ss.length<4611686018427387904) :
  Calls prog 180 #[.slice (some ⟨blk,off,none⟩) ss.length cap] w fun e w'=>
   e= .returned (.tuple #[]) ∧ ∃n os,w'=grow (putRow encStr (Sort.ahead w n) blk off (ss.mergeSort fun x y=>decide (x<=y)).toArray) os:=Any.slices_Sort_string Tryz.lays190 blk off cap ss w hH hblk hsz
open Go.RowKit Go.Sort in
theorem Tryz.slices_Sort_string_none(p:OA)(cap:Nat)(w:World) :
  Re 180 #[.slice p 0 cap] w (.tuple #[]):=Any.slices_Sort_string_none Tryz.lays190 p cap w
end St
namespace St
open Go.RowKit Go.Maps Go.Sort
structure RdN(w:World)(ao:OA)(b:Nat)(N:List (List UInt8)):Prop where
 ptr:0<N.length->ao=Zp b
 cell:∀j,j<N.length->w.cell? ⟨b,j,none⟩=some (.string ⟨(N.getD j []).toArray⟩)
variable{W w:World}{ao ka:OA}{B b cap g kc ko m p:Nat}
theorem RdN.same{N:List (List UInt8)}(h:RdN w ao b N)(hb:0<N.length->W.heap[b]? = w.heap[b]?):RdN W ao b N :=
 ⟨h.ptr,fun j hj=>(LE (a:=⟨b,j,none⟩) (hb (by omega))).trans (h.cell j hj)⟩
theorem RdN.lt{N:List (List UInt8)}(h:RdN w ao b N)(h0:0<N.length):b<w.heap.size:=Lo w _ (h.cell 0 h0)
theorem Tryz.infoS:(prog.info? 9).map (fun i=>(i.zero,i.size,i.bytes))=some (some (.string ⟨#[]⟩),1,16):=by kernel_rfl
theorem Qjo{L:List (List UInt8×FV)}(h:Ord L){ss:List (List UInt8)}(hp:ss.Perm (Qg L)):ss.mergeSort (fun x y=>decide (x<=y))=Qg L:=by
 have e:ss.mergeSort leB=(Qg L).mergeSort leB:=mergeSort_of_perm hp;rw[show(fun x y:List UInt8=>decide (x<=y))=leB from rfl,e]
 refine List.mergeSort_of_pairwise ?_
 refine List.pairwise_map.2 (h.1.imp fun {a b} hlt=> ?_)
 simp only[leB,decide_eq_true_eq];exact List.le_of_lt hlt
theorem QpR{N:List (List UInt8)}(h:w.ownsRow B 9 1 (.slice (Zp g) N.length cap) N.length (N.map encStr)):RdN w (Zp g) g N:=by
 refine⟨fun _=>rfl,fun j hj=> ?_⟩
 rcases h.2 with ⟨e,_⟩|⟨g',cap',cur,e,_,hb,h1,h2,h3,h4⟩
 ·cases e
 ·cases e;rw[cell_of_row w g j cur _ (0,0) hb];have:=Lv (fun l=>l[j]?) h4
  simp only[Nat.mul_one,List.getElem?_take,if_pos hj] at this
  rw[Nh] at this;rw[this];simp[encStr,List.getElem?_eq_getElem hj,List.getD_eq_getElem?_getD]
theorem QiQ(w:World){R:List UInt8->FR}{kb:Nat}{D:DV}(h:Dk w p m R ka kb ko kc D none) :
  Calls prog 102 #[Pq p] w fun e w'=> ∃ao b cap,e= .returned (.slice ao (Qg D.L).length cap)∧RdN w' ao b (Qg D.L)∧(0<(Qg D.L).length->w.heap.size<=b∧Ty w' b 9)∧Bl w w':=by
 obtain⟨i0,hi,xR,xS,xT⟩:=info_parts Tryz.infoS;obtain⟨D0,xE,xK,xA⟩:=h.mp.perm (ON h.ord) (Qb9 D.L R);obtain⟨c0,c1,c2,c3,c4,c5,c6⟩:=h.cells;have xL:=xE.lt;have xM:Maps.size D0<=1099511627776:=by rw[xK];simp only[Qg,List.length_map];exact h.cnt
 have HO:Hid (Ord D.L):=h.ord;have HP:Hid ((Qg D.L).Perm (strKeys D0)):=xA;obtain⟨n,hn⟩:=Ze ((Qg D.L).length);have HN:Hid ((Qg D.L).length=n):=hn;rw[hn] at xE xK ⊢;clear h xA hn c0 c2 c3 c4 c5 c6
 go_enter func102,ntmps102
 go_wp2_with (first
  | (at_range;refine wpList_range_own _ rfl _ 96 rfl 9 129 Tryz.keyS underlying96 hv m n D0 rfl xE ?_;intro w0 hrg0 hg0 hs0)
  | go_in)
 go_frame
 have xU:Hid (w0.heap.size=w.heap.size+1):=hs0;clear hs0
 go_loopw [3] (fun v wr=> ∃(left:Lit->Bool) (cnt:Nat) (ss:List (List UInt8)),wr.ranges prog 9 hv m w.heap.size n D0 left cnt∧ss.length+cnt<=Maps.size D0 ∧
   wr.ownsRow w.heap.size 9 1 v ss.length (ss.map encStr)∧(v= .slice none 0 0->ss=[])∧Collected D0 left ss∧Bl w wr)
  (fun _ wr=>wr.rangeLeft m w.heap.size)
 case atStart=>exact⟨_,_,[],hrg0,by simp,⟨rfl,.inl ⟨rfl,rfl⟩⟩,fun _=>rfl,Collected.start D0,(Lb _ _).grown hg0 (La _) (fun j hj=>by cases hj)⟩
 case round=>
  obtain⟨left,cnt,ss,xI,xV,xG,xO,hC,xF⟩:=hrel
  go_wp2_with (first
   | (at_next;refine wpList_next_ranges _ rfl _ rfl 9 Tryz.keyS hv encStr (fun v:Value=>v) (fun key kl hk=>by obtain⟨x,hx,_⟩:=Maps.keyOf_str underlying9 hk;exact⟨x,hx⟩) (fun v y _=>⟨v,rfl⟩) m w.heap.size n _ _ _ rfl xI ?_ ?_)
   | go_in)
  ·intro hc0 hl0;have xA:ss.Perm (Qg D.L):=(hC.perm xE Tryz.keyS underlying9 hl0).trans HP.out.symm;have xC:ss.length=n:=by rw[xA.length_eq];exact HN.out
   have xD:=Qjo HO.out xA
   rcases xG.2 with ⟨hnil,_⟩|⟨g,cap,cur,rfl,hbase,hb,h1,h2,h3,h4⟩
   ·have xP:=xO hnil;subst hnil xP;have xN:n=0:=by simpa using xC.symm
    subst xN;have HC:=Tryz.slices_Sort_string_none none 0 wr;have HK:Hid (Qg D.L=[]):=List.length_eq_zero_iff.1 HN.out;clear xD xA xC
    go_wp2_with (go_at_call 180;refine HC.mono ?_;rintro e w' ⟨rfl,rfl⟩)
    go_ret
    exact⟨none,0,0,rfl,by rw[HK.out];exact⟨fun h=>by simp at h,fun j hj=>by simp at hj⟩,by intro h;simp at h,xF⟩
   ·have hH:Holds encStr wr g 0 ss.toArray:=holds_of_block hb (by simpa using h4)
    have xJ:g<wr.heap.size:=(Array.getElem?_eq_some_iff.1 hb).1
    have hc:=Tryz.slices_Sort_string g 0 cap ss wr hH xJ (by omega)
    have HF:Hid (∀nn os,RdN (grow (putRow encStr (Sort.ahead wr nn) g 0 (ss.mergeSort fun x y=>decide (x<=y)).toArray) os) (Zp g) g (Qg D.L)∧(0<(Qg D.L).length->w.heap.size<=g∧Ty (grow (putRow encStr (Sort.ahead wr nn) g 0 (ss.mergeSort fun x y=>decide (x<=y)).toArray) os) g 9)∧Bl w (grow (putRow encStr (Sort.ahead wr nn) g 0 (ss.mergeSort fun x y=>decide (x<=y)).toArray) os)):=fun nn os=>by
     have q:=ownsRow_sorted (n:=nn) (os:=os) (ss:=ss) (ts:=ss.mergeSort fun x y=>decide (x<=y)) (by simp) hbase hb h1 h2 h3
     have q2:=xF.grown (grownBy_sorted (n:=nn) (os:=os) (ss.mergeSort fun x y=>decide (x<=y)).toArray) xF.size (fun j hj=>by cases hj;exact hbase)
     rw[xD] at q q2 ⊢;rw[xC,<-HN.out] at q;have xQ:Ty (grow (putRow encStr (Sort.ahead wr nn) g 0 (Qg D.L).toArray) os) g 9:=by
      rcases q.2 with ⟨e,_⟩|⟨g',cap',cur',e,_,hb',_⟩
      ·cases e
      ·cases e;exact⟨_,_,hb'⟩
     exact⟨QpR q,fun _=>⟨hbase,xQ⟩,q2⟩
    rw[xC] at hc ⊢;clear xD xA hH xJ h1 h2 h3 h4 hb xC
    go_wp2_with (go_at_call 180;refine hc.mono ?_;rintro e w' ⟨rfl,nn,os,rfl⟩)
    go_ret
    exact⟨_,g,cap,rfl,by have:=HF.out nn os;rw[HN.out] at this;exact this⟩
  ·intro x c kl yd yp w2 cnt2 hkey hlk hv' hat hrg2 hlt hg2 hs2 hen;obtain⟨x',ex,rfl,_⟩:=Maps.keyOf_str underlying9 hkey;obtain rfl:x=x':=encStr_inj ex;have xB:=xG.kept hg2 (Or.inr (row_ne_iter xG xI).symm);clear hs2
   go_wp2_with (first
    | (at_builtin;refine wpList_append_own _ rfl _ _ 22 rfl w.heap.size 9 i0 (.string ⟨#[]⟩) 1 16 underlying22 hi xR xS xT rfl (by decide) _ _ _ rfl (xB.alloc _) ⟨w2.heap.size,0,none⟩ 1 1 [encStr x] rfl rfl (cell_one_new _ _ _) (by simp[Value.oneCell',encStr]) (by unfold maxLen at *;omega) (by omega) (by have:=xF.size;have:=hg2.size;simp;omega) ?_;intro v' w3 hown' hg3 hnil3;go_frame)
    | go_in)
   have xH:=(hrg2.alloc _).kept hg3 (row_ne_low xB xL) (row_ne_iter xB hrg2)
   go_roundw
   case rel=>
    refine⟨_,cnt2,ss++[x],xH,by simp;omega,by simpa using hown',fun hv'=>by have:=(hnil3.1 hv').2;omega,hC.step hlk hat,?_⟩
    exact((xF.grown hg2 xF.size (fun j hj=>by cases hj;exact La _)).alloc (by have:=xF.size;have:=hg2.size;omega) _).grown hg3 (by have:=xF.size;have:=hg2.size;simp;omega) (fun j hj=>(xB.lt j hj).1)
   case measure=>rw[xH.left_eq,xI.left_eq];exact hlt
end St
namespace St
def cF(l:List (List UInt8×List UInt8)):List Value:=l.flatMap fun p=>[Value.string ⟨p.1.toArray⟩,Value.string ⟨p.2.toArray⟩]
theorem Qo6(l k:List (List UInt8×List UInt8)):cF (l++k)=cF l++cF k:=by simp[cF]
def OwnF(w:World)(B:Nat)(v:Value)(l:List (List UInt8×List UInt8)):Prop:=w.ownsRow B 72 2 v l.length (cF l)
theorem Tryz.infoF:(prog.info? 72).map (fun i=>(i.zero,i.size,i.bytes))=some (some (.agg #[.string ⟨#[]⟩,.string ⟨#[]⟩]),2,32):=by kernel_rfl
def Uj:List (List UInt8)->List (List UInt8)->List (List UInt8×List UInt8)
 | s::N,x::X=>if x=[] then Uj N X else (s,x)::Uj N X
 | _,_=>[]
theorem Qdf:∀(N X:List (List UInt8)) (s x:List UInt8),N.length=X.length->Uj (N++[s]) (X++[x])=Uj N X++(if x=[] then [] else [(s,x)])
 | [],[],s,x,_=>by
  simp only[List.nil_append,Uj]
 | s'::N,x'::X,s,x,h=>by
  have ih:=Qdf N X s x (by simpa using h)
  simp only[List.cons_append,Uj]
  split
  ·exact ih
  ·rw[ih];rfl
 | [],_::_,_,_,h=>by simp at h
 | _::_,[],_,_,h=>by simp at h
theorem Qfu:∀(N X:List (List UInt8)),(Uj N X).length<=N.length
 | s::N,x::X=>by
  have:=Qfu N X;simp only[Uj]
  split
  ·simp;omega
  ·simp;omega
 | [],_=>by simp[Uj]
 | _::_,[]=>by simp[Uj]
theorem Y2{α:Type}(l:List α)(d:α)(j:Nat)(h:j<l.length):l.take (j+1)=l.take j++[l.getD j d]:=by
 rw[N9,Lk h,Ld,Lk h];rfl
theorem Qaf(L:List (List UInt8×FV)):(Qg L).length=L.length:=by simp[Qg]
theorem Qhv(L:List (List UInt8×FV))(j:Nat)(h:j<L.length):(Qg L).getD j []∈Qg L:=by
 have:j<(Qg L).length:=by rw[Qaf];exact h
 rw[Ld,Lk this];exact L8 this
structure Tl(w:World)(p m:Nat)(R:List UInt8->FR)(kb:Nat)(D:DV)(S:Nat->Prop)(fn:Nat)(caps:Array Value)(X:List (List UInt8))(J:Nat->World->Prop):Prop where
 len:X.length=D.L.length
 old:∀x,S x->x<w.heap.size ∧ ¬YC p m R kb D x
 call:∀(W:World) j,j<D.L.length->J j W->Upo S w W->Calls prog fn (#[Uc (Qe D.L ((Qg D.L).getD j [])) (R ((Qg D.L).getD j []))]++caps) W fun e w'=> ∃ao g cap,e= .returned (.slice ao (X.getD j []).length cap)∧Rw w' ao g cap (X.getD j [])∧J (j+1) w'∧Upo S W w'
 keep:∀(W W':World) j,J j W->Bl W W'∨(Upo (fun x=>w.heap.size<=x) W W')->J j W'
 zero:∀W,Bl w W->J 0 W
structure Tj(w:World)(N X:List (List UInt8))(nb:Nat)(na:OA)(S:Nat->Prop)(J:Nat->World->Prop)(j:Nat)(v:Value)(wr:World):Prop where
 own:OwnF wr w.heap.size v (Uj (N.take j) (X.take j))
 nms:RdN wr na nb N
 nty:0<N.length->w.heap.size<=nb∧Ty wr nb 9
 st:J j wr
 up:Upo S w wr
variable{B T j kc ko m n p s:Nat}{v:Value}{xs:List Value}
theorem Qu{w:World}(h:w.ownsRow B T s v n xs):∃ao cap,v= .slice ao n cap:=by
 rcases h.2 with ⟨rfl,rfl⟩|⟨g,cap,cur,rfl,_⟩
 ·exact⟨none,0,rfl⟩
 ·exact⟨_,cap,rfl⟩
theorem Qy{w w':World}(h:w.ownsRow B T s v n xs)(hk:∀g,v.ownBlock=some g->w'.heap[g]? = w.heap[g]?):w'.ownsRow B T s v n xs:=by
 obtain⟨h1,h2⟩:=h;refine⟨h1,?_⟩
 rcases h2 with h2|⟨g,cap,cur,hv,hg,hh,h3⟩
 ·exact .inl h2
 ·exact .inr ⟨g,cap,cur,hv,hg,(hk g (by rw[hv];rfl)).trans hh,h3⟩
theorem Qoy(w:World)(a b:Value)(T:TypeId):∀j u,[a,b][j]? = some u->(w.alloc (.cells #[a,b] T)).cell? ((⟨w.heap.size,0,none⟩:Addr).add j)=some u:=fun j u hu=>by
 rw[Addr.add_mid,Nc,Ll]
 simpa using hu
theorem Qmd(w:World){R:List UInt8->FR}{ka:OA}{kb:Nat}{D:DV}(h:Dk w p m R ka kb ko kc D none)(S:Nat->Prop)(fn:Nat)(caps:Array Value)(X:List (List UInt8))(J:Nat->World->Prop)(hT:Tl w p m R kb D S fn caps X J)(hfn:fn=71∨fn=53) :
  Calls prog 52 #[Pq p,.func (.func fn) #[] caps] w fun e w'=> ∃v,e= .returned v∧OwnF w' w.heap.size v (Uj (Qg D.L) X)∧J D.L.length w'∧Upo S w w':=by
 have HN:=QiQ w h;have HH:Hid (Dk w p m R ka kb ko kc D none∧Tl w p m R kb D S fn caps X J):=⟨h,hT⟩;obtain⟨n,hn⟩:=Ze ((Qg D.L).length);have HL:Hid ((Qg D.L).length=n∧D.L.length=n∧n<=1099511627776):=⟨hn,by rw[<-hn,Qaf],by rw[<-hn,Qaf];exact h.cnt⟩
 rw[hn] at HN;clear h hT hn
 go_enter func52,ntmps52
 go_wp2_with (go_at_call 102;with_reducible refine HN.mono ?_;rintro e w1 ⟨na,nb,yJ,rfl,yB,yA,xP⟩)
 have HS:Hid (Tj w (Qg D.L) X nb na S J 0 (.slice none 0 0) w1):=⟨⟨rfl,.inl ⟨rfl,rfl⟩⟩,yB,by rw[HL.out.1];exact yA,HH.out.2.zero w1 xP,Upo.of xP⟩
 clear yB yA xP
 go_loopg [5,12] n (fun g x i wr=> ∃j:Nat,j<=n∧g=n-j∧i= .int .i64 j∧Tj w (Qg D.L) X nb na S J j x wr)
 case atStart=>exact⟨0,Ln _,rfl,rfl,HS.out⟩
 case round=>
  obtain⟨j,hj,rfl,rfl,hR⟩:=hrel
  by_cases hlt:j<n
  ·obtain⟨nm,xT⟩:∃nm:BA,(⟨((Qg D.L).getD j []).toArray⟩:BA)=nm:=⟨_,rfl⟩;have xQ:j<D.L.length:=by rw[HL.out.2.1];exact hlt
   have hk:=Qhv D.L j xQ;have xM:nm.data.toList=(Qg D.L).getD j []:=by rw[<-xT]
   have cn:=hR.nms.cell j (by rw[HL.out.1];exact hlt)
   rw[xT] at cn;have ea:=hR.nms.ptr (by rw[HL.out.1];omega)
   have hD:Dk wr p m R ka kb ko kc D none:=HH.out.1.same fun x hx=>hR.up.block x (HH.out.1.lt hx) (fun hS=>(HH.out.2.old x hS).2 hx)
   obtain⟨c0,c1,c2,c3,c4,c5,c6⟩:=hD.cells;obtain⟨r,hl,hr⟩:=hD.look nm (by have:=hD.nm _ hk;rw[<-xM,Qb] at this;exact this)
   rw[xM] at hl hr;obtain rfl:r=R ((Qg D.L).getD j []):=hr.elim (fun q=>q.2) (fun q=>absurd hk q.1)
   obtain⟨V,hV⟩:=Ze (Uc (Qe D.L ((Qg D.L).getD j [])) (R ((Qg D.L).getD j [])));have yE:=hl wr rfl;have HC:=HH.out.2.call wr j xQ hR.st hR.up;rw[hV] at yE HC;obtain⟨xs,xX⟩:=Ze (X.getD j []);rw[xX] at HC;have yK:(0:Int)<=(j:Int):=by omega
   have yL:(j:Int)<(n:Int):=by omega
   have hw:IntKind.i64.wrap ((j:Int)+1)=(j:Int)+1:=by have:=HL.out.2.2;rw[Lq];omega
   subst ea;have HR:Hid (Tj w (Qg D.L) X nb (Zp nb) S J j u5 wr∧nm.data.toList=(Qg D.L).getD j []∧X.getD j []=xs∧j<n):=⟨hR,xM,xX,hlt⟩;have xY:Hid (Calls prog fn (#[V]++caps) wr fun e w'=> ∃ao g cap,e= .returned (.slice ao xs.length cap)∧Rw w' ao g cap xs∧J (j+1) w'∧Upo S wr w'):=HC
   clear c0 c2 c3 c4 c5 c6 hR hD hl hr hV xX HC xM xT hk xQ hlt hj
   go_upto_region 5 with (fail)
   go_cut [8] from 13 to 34 (fun x wx=> ∃ao g cap,x= .slice ao xs.length cap∧Rw wx ao g cap xs∧J (j+1) wx∧Upo S wr wx)
   case first=>
    rcases hfn with rfl|rfl
    ·go_wp2_with (go_at_call 71;with_reducible refine xY.out.mono ?_;rintro e w2 ⟨ao,g,cap,rfl,xI,xD,xF⟩)
     go_meet
     case rel=>exact⟨ao,g,cap,rfl,xI,xD,xF⟩
    ·go_wp2_with (go_at_call 53;with_reducible refine xY.out.mono ?_;rintro e w2 ⟨ao,g,cap,rfl,xI,xD,xF⟩)
     go_meet
     case rel=>exact⟨ao,g,cap,rfl,xI,xD,xF⟩
   case rest=>
    obtain⟨ao,g,cap,rfl,xI,xD,xF⟩:=hcut;obtain⟨w2,yF⟩:∃W,W=wc:=⟨_,rfl⟩;subst yF;have xR:w.heap.size<=nb:=(HR.out.1.nty (by rw[HL.out.1];have:=HR.out.2.2.2;omega)).1
    have xK:∀x,w.heap.size<=x->x<wr.heap.size->w2.heap[x]? = wr.heap[x]? := fun x hx hx2=>xF.block x hx2 (fun hS=>by have:=(HH.out.2.old x hS).1;omega)
    have xC:OwnF w2 w.heap.size u5 (Uj ((Qg D.L).take j) (X.take j)):=Qy HR.out.1.own fun g hg=>by
     have:=HR.out.1.own.lt g hg;exact xK g this.1 this.2
    have xB:RdN w2 (Zp nb) nb (Qg D.L):=HR.out.1.nms.same fun h0=>xK nb xR (HR.out.1.nms.lt h0)
    have xA:0<(Qg D.L).length->w.heap.size<=nb∧Ty w2 nb 9:=fun h0=>⟨xR,(HR.out.1.nty h0).2.same (xK nb xR (HR.out.1.nty h0).2.lt)⟩
    have xG:Upo S w w2:=HR.out.1.up.trans xF (fun _ _ q=>q)
    have xN:(Qg D.L).take (j+1)=(Qg D.L).take j++[nm.data.toList]:=by rw[HR.out.2.1];exact Y2 _ _ _ (by rw[HL.out.1];exact HR.out.2.2.2)
    have xO:X.take (j+1)=X.take j++[xs]:=by rw[<-HR.out.2.2.1];exact Y2 _ _ _ (by rw[HH.out.2.len,HL.out.2.1];exact HR.out.2.2.2)
    have xE:Uj ((Qg D.L).take (j+1)) (X.take (j+1))=Uj ((Qg D.L).take j) (X.take j)++(if xs=[] then [] else [(nm.data.toList,xs)]):=by
     rw[xN,xO];exact Qdf _ _ _ _ (by rw[Lx,Lx,HL.out.1,HH.out.2.len,HL.out.2.1])
    have xJ:(Uj ((Qg D.L).take j) (X.take j)).length<=j:=by
     have:=Qfu ((Qg D.L).take j) (X.take j);rw[Lx] at this;omega
    by_cases hx0:xs=[]
    ·subst hx0;rw[Lf rfl,LU] at xE;have HF:Hid (Tj w (Qg D.L) X nb (Zp nb) S J (j+1) u5 w2):=⟨by rw[xE];exact xC,xB,xA,xD,xG⟩
     clear xC xB xA xG xN xO xE xJ xI xD xF xK;have hz:¬((([]:List UInt8).length:Int) > 0):=by simp
     go_wp2
     go_roundg (n-(j+1))
     case rel=>go_light;exact⟨j+1,by have:=HR.out.2.2.2;omega,rfl,by go_num,HF.out⟩
     case measure=>go_light;have:=HR.out.2.2.2;omega
    ·rw[Le hx0] at xE;have xZ:(convert 127 9 (.slice ao xs.length cap)).run prog w2= .ok (.string ⟨xs.toArray⟩) w2:=by
      have:=xI.conv (k:=0) (n:=xs.length) (by omega) (ax:=ao) (.inl rfl) (fun _=> .inl rfl) cap
      rwa [NM,NJ] at this
     obtain⟨sx,xW⟩:∃sx:BA,(⟨xs.toArray⟩:BA)=sx:=⟨_,rfl⟩;rw[xW] at xZ;have yC:sx.data.toList=xs:=by rw[<-xW]
     have xV:(0:Int)<(xs.length:Int):=by have:xs.length≠0:=fun e=>hx0 (List.length_eq_zero_iff.1 e);omega
     obtain⟨i0,hi,yG,yH,yI⟩:=info_parts Tryz.infoF;obtain⟨xl,yD⟩:=Ze xs.length;have HX:Hid (nm.data.toList=nm.data.toList∧sx.data.toList=xs∧Tj w (Qg D.L) X nb (Zp nb) S J j u5 wr):=⟨rfl,yC,HR.out.1⟩;have HP:Hid (OwnF w2 w.heap.size u5 (Uj ((Qg D.L).take j) (X.take j))∧RdN w2 (Zp nb) nb (Qg D.L)∧(0<(Qg D.L).length->w.heap.size<=nb∧Ty w2 nb 9)∧J (j+1) w2∧Upo S w w2∧Uj ((Qg D.L).take (j+1)) (X.take (j+1))=Uj ((Qg D.L).take j) (X.take j)++[(nm.data.toList,xs)]∧(Uj ((Qg D.L).take j) (X.take j)).length<=j):=⟨xC,xB,xA,xD,xG,xE,xJ⟩;rw[yD] at xZ xV ⊢;clear xC xB xA xG xN xO xE xJ xI xD xF xK hx0 yC xW cn yD;have q1:(Uj ((Qg D.L).take j) (X.take j)).length+1<=maxLen:=by have:=HP.out.2.2.2.2.2.2;have:=HR.out.2.2.2;have:=HL.out.2.2;unfold maxLen;omega
     have q2:((Uj ((Qg D.L).take j) (X.take j)).length+1)*32<=140737488355328:=by have:=HP.out.2.2.2.2.2.2;have:=HR.out.2.2.2;have:=HL.out.2.2;omega
     have q3:w.heap.size<=(w2.alloc (.cells #[.string nm,.string sx] 72)).heap.size:=by have:=HP.out.2.2.2.2.1.size;simp;omega
     have Q:=Qc (Nx q1 (Nx q2 q3));clear q1 q2 q3
     go_wp2_with (first
      | (at_builtin;refine wpList_append_own _ rfl _ _ 42 rfl w.heap.size 72 i0 (.agg #[.string ⟨#[]⟩,.string ⟨#[]⟩]) 2 32 underlying42 hi yG yH yI rfl (by decide) _ _ _ rfl (HP.out.1.alloc _) ⟨w2.heap.size,0,none⟩ 1 1 [.string nm,.string sx] rfl rfl (Qoy _ _ _ _) (by simp[Value.oneCell']) Q.out.1 Q.out.2.1 Q.out.2.2 ?_;intro v' w3 own3 g3 nil3;go_frame)
      | go_in)
     obtain⟨xC,xB,xA,xD,xG,xE,xJ⟩:=HP.out;obtain⟨va,vc,rfl⟩:=Qu own3;have xL:Bl w2 (w2.alloc (.cells #[.string nm,.string sx] 72)):=bal (Lb _ _) _;have xH:Upo (fun x=>w.heap.size<=x) w2 w3:=by
      refine(Upo.of xL).trans (Upo.grown (S:=fun x=>w.heap.size<=x) g3 (fun b hb=>(xC.lt b hb).1)) (fun _ _ q=>q)
     have xS:∀x,x<w2.heap.size->some x≠u5.ownBlock->w3.heap[x]? = w2.heap[x]? := fun x hx hn=>(g3.block x (by have:=xL.size;omega) hn).trans (xL.block x hx)
     have xU:some nb≠u5.ownBlock:=fun e=>by
      have h0:0<(Qg D.L).length:=by rw[HL.out.1];have:=HR.out.2.2.2;omega
      rcases xC.2 with ⟨q,_⟩|⟨g',cap',cur',q,_,hb',_⟩
      ·rw[q] at e;cases e
      ·rw[q] at e;simp only[Value.ownBlock,Option.some.injEq] at e;exact(xA h0).2.ne ⟨_,_,hb'⟩ (by decide) e
     have HF:Hid (Tj w (Qg D.L) X nb (Zp nb) S J (j+1) (.slice va ((Uj ((Qg D.L).take j) (X.take j)).length+1) vc) w3):=by
      refine⟨?_,xB.same fun h0=>xS nb (xB.lt h0) xU,fun h0=>⟨(xA h0).1,(xA h0).2.same (xS nb (xA h0).2.lt xU)⟩,HH.out.2.keep w2 w3 (j+1) xD (.inr xH),xG.trans xH (fun b hb q=>by omega)⟩
      unfold OwnF;rw[xE,Qo6,Lc];have e2:cF [(nm.data.toList,xs)]=[.string nm,.string sx]:=by
       rw[<-HX.out.2.1]
       rfl
      rw[e2];exact own3
     clear xC xB xA xD xG xE xJ own3 xL xH xS xU HP HX g3 nil3;go_wp2
     go_roundg (n-(j+1))
     case rel=>go_light;exact⟨j+1,by have:=HR.out.2.2.2;omega,rfl,by go_num,HF.out⟩
     case measure=>go_light;have:=HR.out.2.2.2;omega
  ·obtain rfl:j=n:=by omega
   have hc:¬((j:Int)<(j:Int)):=by omega
   have HR:Hid (Tj w (Qg D.L) X nb na S J j u5 wr):=hR;clear hR hlt hj;go_wp2
   go_ret
   refine⟨u5,rfl,?_,by rw[HL.out.2.1];exact HR.out.st,HR.out.up⟩
   have:=HR.out.own
   rwa [Lp (by rw[HL.out.1];exact La _),Lp (by rw[HH.out.2.len,HL.out.2.1];exact La _)] at this
def outs(ks:List Bool):List FV->Nat->List (List UInt8)
 | [],_=>[]
 | f::r,i=>(stay ks f i).1::outs ks r (stay ks f i).2
def ixa(ks:List Bool):List FV->Nat->Nat->Nat
 | _,i,0=>i
 | [],i,_+1=>i
 | f::r,i,j+1=>ixa ks r (stay ks f i).2 j
theorem QkL(ks:List Bool)(fs:List FV)(i:Nat):ixa ks fs i 0=i:=by cases fs <;> rfl
theorem Qfn(ks:List Bool):∀(fs:List FV) (i:Nat),(outs ks fs i).length=fs.length
 | [],_=>rfl
 | f::r,i=>by simp[outs,Qfn ks r]
theorem QhG(ks:List Bool):∀(fs:List FV) (i j:Nat),j<fs.length->(outs ks fs i).getD j []=(stay ks (fs.getD j fz) (ixa ks fs i j)).1∧ixa ks fs i (j+1)=(stay ks (fs.getD j fz) (ixa ks fs i j)).2
 | [],_,_,h=>by simp at h
 | f::r,i,0,_=>⟨rfl,by cases r <;> rfl⟩
 | f::r,i,j+1,h=>by
  have:=QhG ks r (stay ks f i).2 j (by simpa using h)
  exact⟨this.1,this.2⟩
theorem Qde(ks:List Bool):∀(L:List (List UInt8×FV)) (i:Nat),Uj (Qg L) (outs ks (L.map (·.2)) i)=aft ks L i
 | [],_=>rfl
 | (s,f)::r,i=>by
  have:=Qde ks r (stay ks f i).2;simp only[Qg,List.map_cons,outs,Uj,aft] at *;rw[this]
theorem Qm3{L:List (List UInt8×FV)}(h:Ord L)(hj:j<L.length):Qe L ((Qg L).getD j [])=(L.map (·.2)).getD j fz:=by
 have e1:(Qg L).getD j []=(L[j]).1:=by simp[Qg,List.getD_eq_getElem?_getD,List.getElem?_eq_getElem hj]
 have e2:(L.map (·.2)).getD j fz=(L[j]).2:=by simp[List.getD_eq_getElem?_getD,List.getElem?_eq_getElem hj]
 rw[e1,e2];exact Qac h (L8 hj)
section
variable {p m:Nat} {R:List UInt8->FR} {ka:OA} {kb ko kc:Nat} {D:DV}
theorem Qf6(w:World)(f:FV)(r:FR)(q qc:Nat)(ao:OA)(b o c:Nat)(ks:List Bool)(i:Nat)(hF:Fil w f r)(hc:Chs w q ao c ks i)(hk:RdL w ao b o ks)(hkl:ks.length<=9223372036854775807)(hq:w.heap[qc]? = some (.cells #[Pq q] 123 (0,0))) :
  Calls prog 53 #[Uc f r,Pq qc] w fun e w'=> ∃gr,e= .returned (.slice (Zp gr) (stay ks f i).1.length (stay ks f i).1.length)∧w.heap.size<=gr∧Rw w' (Zp gr) gr (stay ks f i).1.length (stay ks f i).1∧Chs w' q ao c ks (stay ks f i).2∧Upo (fun x=>x=q) w w':=by
 obtain⟨n,hn⟩:=Ze f.now.length;obtain⟨k,xC⟩:=Ze f.syn.length;obtain⟨P,hP⟩:=Ze (stay ks f i);rw[hP];simp only[Uc,fv,hn,xC];obtain⟨ra,rg,rc,rb,rh,rd,rs⟩:=r;simp only;obtain⟨w1,xB⟩:=Ze (w.alloc (.cells #[.slice ra n rc,.slice rb k rd,.int .i64 rs] 129));have xA:Bl w w1:=by rw[<-xB];exact bal (Lb _ _) _
 have HS:=stays_any w1 ra rg n rc f.now rb rh k rd rs f.syn q ao b o c ks i (hF.now.next xA (La _)) (hF.syn.next xA (La _)) hn xC (hc.same (xA.block q hc.lt)) (hk.next xA) hkl (by have:=hF.b1;omega) (by have:=hF.b2;omega) P hP
 have k1:w1.heap[w.heap.size]? = some (.cells #[.slice ra n rc,.slice rb k rd,.int .i64 rs] 129 (0,0)):=by rw[<-xB];exact Yc _ _
 obtain⟨b0,b1,b2⟩:=Qp k1;have q1:w1.cell? ⟨qc,0,none⟩=some (Pq q):=by
  have e:=(xA.block qc (Array.getElem?_eq_some_iff.1 hq).1).trans hq
  rw[cell_of_row w1 qc 0 _ _ (0,0) e];rfl
 have HB:=Qc (Nx xA hc.lt);have HW:Hid (w.alloc (.cells #[.slice ra n rc,.slice rb k rd,.int .i64 rs] 129)=w1):=xB;clear hF hc hk hkl hq xA xB k1 hn xC hP
 go_enter func53,ntmps53
 go_upto_region 1 with (fail)
 rw[HW.out]
 go_wp2_with (go_at_call 54;with_reducible refine HS.mono ?_;rintro e w' ⟨gr,rfl,hg,hr,hc,hu⟩)
 go_ret
 exact⟨gr,rfl,Lr HB.out.1.size hg,hr,hc,(Upo.of HB.out.1).trans hu (fun _ _ e=>e)⟩
theorem QcP(w:World)(h:Dk w p m R ka kb ko kc D none)(ao:OA)(b o c:Nat)(ks:List Bool)(hk:RdL w ao b o ks)(hkl:ks.length<=9223372036854775807) :
  Calls prog 17 #[Pq p,.slice ao ks.length c] w fun e w'=> ∃v,e= .returned v∧OwnF w' w.heap.size v (aft ks D.L 0)∧Bl w w':=by
 obtain⟨w1,xA⟩:=Ze ((w.alloc (.cells #[.slice ao ks.length c,.int .i64 0] 125)).alloc (.cells #[Pq w.heap.size] 123));have xB:Bl w w1:=by rw[<-xA];exact bal (bal (Lb _ _) _) _
 have xG:w1.heap.size=w.heap.size+2:=by rw[<-xA];simp
 have xE:Chs w1 w.heap.size ao c ks 0:=by
  have e:cat ks 0=0:=by unfold cat;split <;> simp
  unfold Chs;rw[e,<-xA];exact new0 _ _ _
 have xF:w1.heap[w.heap.size+1]? = some (.cells #[Pq w.heap.size] 123 (0,0)):=by rw[<-xA];exact new2 _ _ _
 have h1:=h.next xB;have xC:=hk.next xB;have HT:Tl w1 p m R kb D (fun x=>x=w.heap.size) 53 #[.pointer (some ⟨w.heap.size+1,0,none⟩)] (outs ks (D.L.map (·.2)) 0)
   (fun j W=>Chs W w.heap.size ao c ks (ixa ks (D.L.map (·.2)) 0 j)∧W.heap[w.heap.size+1]? = some (.cells #[Pq w.heap.size] 123 (0,0))∧RdL W ao b o ks):=by
  refine⟨by rw[Qfn];simp,fun x hx=>⟨by omega,fun hf=> ?_⟩,fun W j hj hJ hu=> ?_,fun W W' j hJ hW=> ?_,fun W hW=> ?_⟩
  ·have:=h.lt hf;omega
  ·have hD:Dk W p m R ka kb ko kc D none:=h1.same fun x hx=>hu.block x (h1.lt hx) (fun e=>by have:=h.lt hx;omega)
   have hF:=hD.fil _ (Qhv D.L j hj) (by simp)
   obtain⟨o1,o2⟩:=QhG ks (D.L.map (·.2)) 0 j (by simpa using hj)
   rw[<-Qm3 h.ord hj] at o1 o2;have hc:=Qf6 W _ _ w.heap.size (w.heap.size+1) ao b o c ks _ hF hJ.1 hJ.2.2 hkl hJ.2.1;refine hc.mono ?_
   rintro e w' ⟨gr,rfl,hg,hr,xI,xD⟩;rw[o1,o2];refine⟨_,_,_,rfl,hr,⟨xI,(xD.block _ (Array.getElem?_eq_some_iff.1 hJ.2.1).1 (fun e=>by omega)).trans hJ.2.1,hJ.2.2.same fun h0=>xD.block b (hJ.2.2.lt h0) (Qj5 hJ.1 hJ.2.2 h0)⟩,xD⟩
  ·have kp:∀x,x<w1.heap.size->x<W.heap.size->W'.heap[x]? = W.heap[x]? := fun x h1 h2=>by
    rcases hW with q|q
    ·exact q.block x h2
    ·exact q.block x h2 (by omega)
   refine⟨hJ.1.same (kp _ (by omega) hJ.1.lt),(kp _ (by omega) (Array.getElem?_eq_some_iff.1 hJ.2.1).1).trans hJ.2.1,hJ.2.2.same fun h0=>kp b (xC.lt h0) (hJ.2.2.lt h0)⟩
  ·exact⟨by rw[QkL];exact xE.same (hW.block _ (by omega)),(hW.block _ (by omega)).trans xF,xC.next hW⟩
 have HC:=Qmd w1 h1 _ _ _ _ _ HT (.inr rfl);rw[Qde] at HC;have xH:=Qc HC;have HB:=Qc (Nx xB xG);have HW:Hid ((w.alloc (.cells #[.slice ao ks.length c,.int .i64 0] 125)).alloc (.cells #[Pq w.heap.size] 123)=w1):=xA;clear h HT HC h1 xC xF xE xB xG xA hk hkl
 go_enter func17,ntmps17
 go_upto_region 2 with (fail)
 rw[HW.out]
 go_wp2_with (go_at_call 52;with_reducible refine xH.out.mono ?_;rintro e w' ⟨v,rfl,ho,_,hu⟩)
 go_ret
 have hb:Bl w w':=by
  refine⟨hu.os.trans HB.out.1.os,hu.tape.trans HB.out.1.tape,hu.output.trans HB.out.1.output,Lr HB.out.1.size hu.size,fun x hx=>(hu.block x (by have:=HB.out.2;omega) (fun e=>by omega)).trans (HB.out.1.block x hx)⟩
 refine⟨v,rfl,?_,hb⟩
 obtain⟨q1,q2⟩:=ho;refine⟨q1,?_⟩
 rcases q2 with q2|⟨g,cap,cur,e1,e2,e3⟩
 ·exact .inl q2
 ·exact .inr ⟨g,cap,cur,e1,by have:=HB.out.2;omega,e3⟩
end
end St
end Go.Proofs.YtoblgjledefdbaaGreatDoor
