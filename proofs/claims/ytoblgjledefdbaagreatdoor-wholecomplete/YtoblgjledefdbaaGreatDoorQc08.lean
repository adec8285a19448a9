/- Own work. -/
import Derived.Test.YtoblgjledefdbaaGreatDoorQc07
set_option maxRecDepth 100000
set_option maxHeartbeats 2000000
namespace Go.Proofs.YtoblgjledefdbaaGreatDoor
open Go.RowKit
attribute [local go_sem ↓] Go.wp_at_zero Go.wp_at_succ
open Go.Proofs.Tryz
namespace St.Rc
theorem QlB(n k:Nat):(zer n).drop k=zer (n-k):=by simp[zer]
theorem QmW(a b t:List UInt8)(k:Nat)(hk:a.length=k):ovr (a++b) k t=a++t++b.drop t.length:=by
 subst hk;rw[ovr,LG (La _),Lr (La _),List.drop_append,Nk (by omega),Ny]
 congr 2
 omega
theorem YK(a t:List UInt8)(n k:Nat)(hk:a.length=k):ovr (a++zer n) k t=a++t++zer (n-t.length):=by
 rw[QmW a (zer n) t k hk,QlB]
theorem QeA(w:World)(s:BA)(hs:s.size<=9223372036854775807)(t:BA)(ht:(⟨(payS s.data.toList).toArray⟩:BA)=t) :
  Calls prog 167 #[.string s] w fun e w'=>e= .returned (.string t)∧Below w.heap.size w w':=by
 rw[payS,Qe] at ht
 by_cases h1:s.size<=1048576
 ·rw[Lm h1] at ht;have z1:¬(s.size:Int) > 1048576:=by omega
  obtain⟨n,hn⟩:∃n,n=s.size:=⟨_,rfl⟩;have z2:(s.size:Int)<=1048576:=by omega
  have hwr:IntKind.u64.wrap (s.size:Int)=(s.size:Int):=by rw[IntKind.wrap_u64];omega
  have hz:(4:Int)+(s.size:Int)+4=((s.size+8:Nat):Int):=by omega
  obtain⟨o,ho⟩:∃o,(if s.size+8-4=4 then 0 else 4)=o:=⟨_,rfl⟩
  obtain⟨w0,hw0⟩:∃w0,w.alloc (.cells (Array.replicate (s.size+8) (Value.int .u8 0)) 5)=w0:=⟨_,rfl⟩;have hmk:(Instr.makeSlice 127 (.int .i64 (4+(s.size:Int)+4)) (.int .i64 (4+(s.size:Int)+4))).run prog w= .ok (.slice (Zp w.heap.size) (s.size+8) (s.size+8)) w0:=by
   rw[hz,<-hw0];exact U9 _ (by omega) w
  have HW:Hid (Byt w0 w.heap.size (zer (s.size+8))∧Below w.heap.size w w0∧w.heap.size<w0.heap.size):=by
   rw[<-hw0];exact⟨Oq w _,bal (Lb _ _) _,by simp⟩
  have HPP:Hid (∀W,Calls prog 263 #[.slice (Zp w.heap.size) (s.size+8) (s.size+8)] W fun e w'=>e= .returned (.tuple #[.slice (Zp w.heap.size) 4 4,.slice (some ⟨w.heap.size,o,none⟩) s.size s.size])∧Below W.heap.size W w'):=fun W=>
   QbE W w.heap.size (s.size+8) (s.size+8) (by omega) (La _) (by omega) o ho s.size (by omega)
  have HPU:Hid (∀W,Below w0.heap.size w0 W->Calls prog 264 #[.slice (Zp w.heap.size) 4 4,.int .u64 s.size] W fun e w'=>e= .returned (.tuple #[])∧(∀ty,(Builtin.copy_ #[127,9] ty #[.slice (some ⟨w.heap.size,o,none⟩) s.size s.size,.string s]).run prog w'= .ok (goInt s.size) (w'.setCells w.heap.size 4 (cY s.data.toList)))∧Byt (w'.setCells w.heap.size 4 (cY s.data.toList)) w.heap.size (big 4 s.size++s.data.toList++zer 4)∧Below w.heap.size w (w'.setCells w.heap.size 4 (cY s.data.toList))):=fun W hb=>by
   refine(UA W w.heap.size 0 4 4 s.size (zer (s.size+8)) (HW.out.1.next hb HW.out.2.2) (by rw[QC];omega) (by decide) (by omega)).mono ?_
   rintro e w' ⟨rfl,hy,hup⟩;rw[show zer (s.size+8)=[]++zer (s.size+8) from rfl,YK [] _ _ 0 rfl,Qr,Ny] at hy
   refine⟨rfl,fun ty=>QbH ty (k:=4) (n:=s.size) (m:=s.size) (o:=o) hy (by rw[Le,Qr,QC];omega) (fun h=>by rw[<-ho,Ld (by omega)]) (La _),?_,?_⟩
   ·have:=hy.over 4 s.data.toList (by rw[Le,Qr,QC,Qe];omega)
    rw[YK _ _ _ 4 (Qr _ _),Qe,show s.size+8-4-s.size=4 by omega] at this
    exact this
   ·exact(Upo.sets (S:=fun b=>b=w.heap.size) (.inl rfl) (cY s.data.toList) 4 _ hup).since (Qa HW.out.2.1 hb) (La _)
  have HSE:Hid (∀W,Byt W w.heap.size (big 4 s.size++s.data.toList++zer 4)->Calls prog 265 #[.slice (Zp w.heap.size) (s.size+8) (s.size+8)] W fun e w'=>e= .returned (.string t)∧Below w.heap.size W w'):=fun W hy=>by
   have hlen:(big 4 s.size++s.data.toList++zer 4).length=s.size+8:=by rw[Le,Le,Qr,QC,Qe];omega
   have htk:(big 4 s.size++s.data.toList++zer 4).take (s.size+8-4)=big 4 s.size++s.data.toList:=by
    rw[LG (by rw[Le,Qr,Qe];omega),Lr (by rw[Le,Qr,Qe];omega)]
   refine(Jg W w.heap.size (s.size+8) (s.size+8) _ hy hlen (by omega) (La _) (by omega) t (by rw[htk,<-ht,pay,Qe])).mono ?_
   rintro e w' ⟨rfl,_,hup⟩;exact⟨rfl,hup.below (by have:=hy.lt (by omega);omega) (fun b hb=>by omega)⟩
  clear ho hn ht h1 hz hw0
  go_enter func167,ntmps167
  go_wp2_with (first
   | (go_at_call 263;with_reducible refine(HPP.out _).mono ?_;rintro e w1 ⟨rfl,hb⟩)
   | (go_at_call 264;with_reducible refine(HPU.out _ hb).mono ?_;rintro e w2 ⟨rfl,hcp,hy,hb2⟩;generalize w2.setCells w.heap.size 4 (cY s.data.toList)=w3 at *)
   | (refine Ur (by rfl) _ _ _ _ (by rfl) (by rfl) (by rfl) (hcp _) ?_)
   | (go_at_call 265;with_reducible refine(HSE.out _ hy).mono ?_;rintro e w4 ⟨rfl,hb4⟩))
  go_ret
  exact⟨rfl,hb2.trans hb4⟩
 ·rw[Ld h1] at ht;subst ht;have z1:(s.size:Int) > 1048576:=by omega
  go_enter func167,ntmps167;go_wp2
  go_ret
  exact⟨rfl,Lb _ _⟩
theorem QmM(p:Nat)(d:List UInt8)(h:d.length<=32):ovr (ovr (zer 40) 0 d) 32 (big 4 p)=d++zer (32-d.length)++big 4 p++zer 4:=by
 rw[show zer 40=[]++zer 40 from rfl,YK [] _ _ 0 rfl,Ny]
 have e:zer (40-d.length)=zer (32-d.length)++zer 8:=by
  rw[zer,zer,zer,NP]
  congr 1
  omega
 rw[e,<-LH,YK _ _ _ 32 (by rw[Le,QC];omega),Qr]
theorem YW(w:World)(p:Nat)(hp:p<18446744073709551616)(s:BA)(hs:s.size<=9223372036854775807)(t:BA)(ht:(⟨(nodS p s.data.toList).toArray⟩:BA)=t) :
  Calls prog 266 #[.int .u64 p,.string s] w fun e w'=>e= .returned (.string t)∧Below w.heap.size w w':=by
 rw[nodS,Qe] at ht
 by_cases h1:s.size<=32
 ·rw[Lm h1] at ht;have z1:¬(s.size:Int) > 32:=by omega
  have hd:s.data.toList.length<=32:=by rw[Qe];exact h1
  obtain⟨w0,hw0⟩:∃w0,w.alloc (.cells (Array.replicate 40 (Value.int .u8 0)) 5)=w0:=⟨_,rfl⟩;have hmk:(Instr.makeSlice 127 (.int .i64 40) (.int .i64 40)).run prog w= .ok (.slice (Zp w.heap.size) 40 40) w0:=by
   rw[<-hw0];exact U9 40 (by decide) w
  have HW:Hid (Byt w0 w.heap.size (zer 40)∧Below w.heap.size w w0∧w.heap.size<w0.heap.size):=by
   rw[<-hw0];exact⟨Oq w _,bal (Lb _ _) _,by simp⟩
  have HPP:Hid (∀W,Calls prog 333 #[.slice (Zp w.heap.size) 40 40] W fun e w'=>e= .returned (.tuple #[.slice (Zp w.heap.size) 32 32,.slice (some ⟨w.heap.size,32,none⟩) 4 4])∧Below W.heap.size W w'):=fun W=>
   QfH W w.heap.size 40 40 (by decide)
  have HCP:Hid (∀W,Below w0.heap.size w0 W->(∀ty,(Builtin.copy_ #[127,9] ty #[.slice (Zp w.heap.size) 32 32,.string s]).run prog W= .ok (goInt s.size) (W.setCells w.heap.size 0 (cY s.data.toList)))∧Byt (W.setCells w.heap.size 0 (cY s.data.toList)) w.heap.size (ovr (zer 40) 0 s.data.toList)∧Below w.heap.size w (W.setCells w.heap.size 0 (cY s.data.toList))):=fun W hb=>by
   have hy:=HW.out.1.next hb HW.out.2.2;exact⟨fun ty=>QbH ty (k:=0) (n:=32) (m:=32) (o:=0) hy (by rw[QC];decide) (fun _=>rfl) h1,hy.over 0 _ (by rw[QC];omega),(Upo.sets (S:=fun b=>b=w.heap.size) (.inl rfl) (cY s.data.toList) 0 _ (Upo.refl _ _)).since (Qa HW.out.2.1 hb) (La _)⟩
  have HPU:Hid (∀W,Byt W w.heap.size (ovr (zer 40) 0 s.data.toList)->Below w.heap.size w W->Calls prog 264 #[.slice (some ⟨w.heap.size,32,none⟩) 4 4,.int .u64 p] W fun e w'=>e= .returned (.tuple #[])∧Byt w' w.heap.size (s.data.toList++zer (32-s.data.toList.length)++big 4 p++zer 4)∧Below w.heap.size w w'):=fun W hy hb=>by
   refine(UA W w.heap.size 32 4 4 p _ hy (by rw[QaS _ _ _ (by rw[QC];omega),QC];decide) (by decide) hp).mono ?_
   rintro e w' ⟨rfl,hy',hup⟩;rw[QmM p _ hd] at hy';exact⟨rfl,hy',hup.since hb (La _)⟩
  have HSE:Hid (∀W,Byt W w.heap.size (s.data.toList++zer (32-s.data.toList.length)++big 4 p++zer 4)->Calls prog 265 #[.slice (Zp w.heap.size) 40 40] W fun e w'=>e= .returned (.string t)∧Below w.heap.size W w'):=fun W hy=>by
   have hlen:(s.data.toList++zer (32-s.data.toList.length)++big 4 p).length=36:=by rw[Le,Le,Qr,QC];omega
   have hlen2:(s.data.toList++zer (32-s.data.toList.length)++big 4 p++zer 4).length=40:=by rw[Le,hlen,QC]
   have htk:(s.data.toList++zer (32-s.data.toList.length)++big 4 p++zer 4).take (40-4)=s.data.toList++zer (32-s.data.toList.length)++big 4 p:=by
    rw[LG (by omega),Lr (by omega)]
   refine(Jg W w.heap.size 40 40 _ hy hlen2 (by omega) (La _) (by omega) t (by rw[htk,<-ht,nod])).mono ?_
   rintro e w' ⟨rfl,_,hup⟩;exact⟨rfl,hup.below (by have:=hy.lt (by omega);omega) (fun b hb=>by omega)⟩
  clear ht h1 hd hw0 hp
  go_enter func266,ntmps266
  go_wp2_with (first
   | (go_at_call 333;with_reducible refine(HPP.out _).mono ?_;rintro e w1 ⟨rfl,hb⟩;obtain⟨hcp,hy,hb2⟩:=HCP.out _ hb;generalize w1.setCells w.heap.size 0 (cY s.data.toList)=w3 at *)
   | (refine Ur (by rfl) _ _ _ _ (by rfl) (by rfl) (by rfl) (hcp _) ?_)
   | (go_at_call 264;with_reducible refine(HPU.out _ hy hb2).mono ?_;rintro e w4 ⟨rfl,hy,hb4⟩)
   | (go_at_call 265;with_reducible refine(HSE.out _ hy).mono ?_;rintro e w5 ⟨rfl,hb5⟩))
  go_ret
  exact⟨rfl,hb4.trans hb5⟩
 ·rw[Ld h1] at ht;subst ht;have z1:(s.size:Int) > 32:=by omega
  go_enter func266,ntmps266;go_wp2
  go_ret
  exact⟨rfl,Lb _ _⟩
def chn(c:BitVec 32)(s:List UInt8)(ss:LB):Nat:=crc (big 4 c.toNat++s++Qk ss)
theorem Qhn(w:World)(c:BitVec 32)(s:BA)(hs:s.size<=9223372036854775807)(ao:OA)(b off len cap:Nat)(ss:LB)(hr:RdS w ao b off len ss)(hmx:len<=9223372036854775807)(r:Nat)(hR:chn c s.data.toList ss=r) :
  Calls prog 267 #[.int .u32 c.toNat,.string s,.slice ao len cap] w fun e w'=>e= .returned (.int .u32 r)∧Below w.heap.size w w':=by
 obtain⟨w0,hw0⟩:∃w0,w.alloc (.cells (Array.replicate 4 (Value.int .u8 0)) 5)=w0:=⟨_,rfl⟩;have hmk:(Instr.makeSlice 127 (.int .i64 4) (.int .i64 4)).run prog w= .ok (.slice (Zp w.heap.size) 4 4) w0:=by
  rw[<-hw0];exact U9 4 (by decide) w
 have HW:Hid (Byt w0 w.heap.size (zer 4)∧Below w.heap.size w w0):=by
  rw[<-hw0];exact⟨Oq w _,bal (Lb _ _) _⟩
 obtain⟨d,hd⟩:∃d,c.toNat=d:=⟨_,rfl⟩;have hd4:d<4294967296:=by rw[<-hd];exact c.isLt
 have hw2:IntKind.u64.wrap (d:Int)=(d:Int):=by rw[IntKind.wrap_u64];omega
 obtain⟨u,hu⟩:∃u:BA,(⟨(big 4 d).toArray⟩:BA)=u:=⟨_,rfl⟩;have hul:u.data.toList=big 4 d:=by rw[<-hu]
 have HPU:Hid (Calls prog 264 #[.slice (Zp w.heap.size) 4 4,.int .u64 d] w0 fun e w'=>e= .returned (.tuple #[])∧(convert 127 9 (.slice (Zp w.heap.size) 4 4)).run prog w'= .ok (.string u) w'∧Below w.heap.size w w'):=by
  refine(UA w0 w.heap.size 0 4 4 d (zer 4) HW.out.1 (by rw[QC];decide) (by decide) (by omega)).mono ?_
  rintro e w' ⟨rfl,hy,hup⟩;rw[show zer 4=[]++zer 4 from rfl,YK [] _ _ 0 rfl,Qr,Ny,show zer (4-4)=[] from rfl,Nd] at hy
  refine⟨rfl,hy.conv (k:=0) (n:=4) (by rw[Qr];decide) 0 (fun _=>rfl) 4 u (by rw[IE,Lr (by rw[Qr];decide)];exact hu),hup.since HW.out.2 (La _)⟩
 obtain⟨x,hx⟩:∃x,crc (big 4 d++s.data.toList)=x:=⟨_,rfl⟩;have HF:Hid (∀W,Calls prog 341 #[.slice (Zp W.heap.size) 2 2] (W.alloc (.cells #[.string u,.string s] 9)) fun e w'=>e= .returned (.int .u32 x)∧Below W.heap.size W w'):=fun W=>by
  refine(Qc5 _ _ W.heap.size 0 2 2 [u,s] ⟨rfl,fun _=>rfl,Qp W [.string u,.string s] 9,by intro z hz;simp at hz;rcases hz with rfl|rfl;rw[<-Qe,hul,Qr];decide;exact hs⟩ (by decide)).mono ?_
  rintro e w' ⟨rfl,hb⟩;refine⟨?_,((Lb _ _).alloc (La _) _).trans (hb.mono (by simp))⟩
  rw[<-hx,crc,sumL,<-hul];simp[Qk]
 have HR:Hid (chn c s.data.toList ss=r∧crc (big 4 d++s.data.toList)=x∧c.toNat=d):=⟨hR,hx,hd⟩;rw[hd];clear hw0 hu hul hx hR hd
 go_enter func267,ntmps267
 go_wp2_with (first
  | (go_at_call 264;with_reducible refine HPU.out.mono ?_;rintro e w2 ⟨rfl,kc,hb2⟩)
  | (go_at_call 341;with_reducible refine(HF.out _).mono ?_;rintro e w3 ⟨rfl,hb3⟩))
 have HB3:Hid (Below w.heap.size w w3):=Qa hb2 hb3;clear kc hb2 hb3 HPU HF
 go_loopg [8,23] len (fun G y i wr=> ∃(k z:Nat),k<=len∧G=len-k∧y= .int .u32 z∧i= .int .i64 k∧Hid (z=(mor (mor 0#32 (big 4 d++s.data.toList)) (Qk (ss.take k))).toNat)∧Hid (Below w.heap.size w wr))
 case atStart=>go_light;exact⟨0,x,by omega,rfl,rfl,rfl,by show _=_;rw[We,show Qk []=[] from rfl,QgO,<-HR.out.2.1];rfl,HB3⟩
 case round=>
  obtain⟨k,z,hk,rfl,rfl,rfl,HM,HB⟩:=hrel
  by_cases hlt:k<len
  ·have hz:(k:Int)<(len:Int):=by omega
   have k0:(0:Int)<=(k:Int):=by omega
   obtain rfl:=hr.ptr (by omega)
   have hr':=hr.next HB.out (La _);have ck:=hr'.at hlt;have hcall:=Qkh wr _ z HM.out (ss.getD k ByteArray.empty) (hr.szAt hlt);rw[<-Oa,<-UP ss k (by rw[hr.hl];exact hlt)] at hcall
   obtain⟨y,hy⟩:∃y,y=(mor (mor 0#32 (big 4 d++s.data.toList)) (Qk (ss.take (k+1)))).toNat:=⟨_,rfl⟩;rw[<-hy] at hcall;have HY:Hid (y=(mor (mor 0#32 (big 4 d++s.data.toList)) (Qk (ss.take (k+1)))).toNat):=hy;clear hy HM hr';generalize ss.getD k ByteArray.empty=part at *
   go_wp2_with (go_at_call 342;refine hcall.mono ?_;rintro e w' ⟨rfl,hb'⟩)
   go_roundg (len-(k+1))
   case rel=>go_light;exact⟨k+1,y,by omega,rfl,rfl,by go_num,HY,Qa HB.out hb'⟩
   case measure=>go_light;omega
  ·obtain rfl:k=len:=by omega
   have hz:¬(k:Int)<(k:Int):=by omega
   have HE:Hid (z=r):=by
    show _=_
    rw[HM.out,<-HR.out.1,chn,crc,HR.out.2.2,Lr (by rw[hr.hl];exact La _),Oa _ (big 4 d++s.data.toList)]
   clear HM;go_wp2
   go_ret
   exact⟨by rw[HE.out];rfl,HB.out⟩
end St.Rc
theorem Qmd(w:World)(s:BA):(Instr.field 315 (.agg #[.string s]) 0).run prog w= .ok (.string s) w:=by kernel_rfl
structure Ap(w wr:World)(m:Nat)(k:Int)(L:LB)(x:BA)(j:Nat)(v:Value):Prop where
 blk:wr.heap[m+1]? = some (.cells #[.int .i64 k,.int .u64 ((L.length+1:Nat):Int),.map (some m)] 172 (0,0))
 lst:wr.heap[w.heap.size]? = some (.cells #[.int .i64 j,.int .u64 (((L.length+1)/2^j-1:Nat):Int)] 249 (0,0))
 mp:Mp wr m (fj (clk k) L x j)
 own:Qg wr (w.heap.size+1) v (nw (clk k) (L++[x]) j)
 ch:Chf m w wr
theorem Qfo(w:World)(ht:Tb w)(m:Nat)(k:Int)(L:LB)(hF:Frs w m k L)(s:BA)(hs:s.size<=1048576)(hL:L.length<65536)(t:Nat)(hT:tr 64 (L.length+1)=t) :
  Calls prog 163 #[.pointer (some ⟨m+1,0,none⟩),.string s] w fun e w'=> ∃v,e= .returned (.tuple #[v,.int .i64 0])∧Frs w' m k (L++[s])∧Qg w' w.heap.size v (nw (clk k) (L++[s]) t)∧Chf m w w':=by
 have h1:decide ((1048576:Int)<(s.size:Int))=false:=Lx (by omega)
 have h2:decide ((65536:Int)<=(L.length:Int))=false:=Lx (by omega)
 have c1:=hF.c1;have f1:=hF.fz 1;have hlt:=hF.lt;have hw1:IntKind.u64.wrap ((L.length:Int)+1)=((L.length+1:Nat):Int):=by rw[Qf7 _ (by omega) (by omega)];omega
 obtain⟨d0,hd0⟩:∃d0,dg (clk k) (Yx s)=d0:=⟨_,rfl⟩;have HLf:Hid (∀W,Tb W->Calls prog 145 #[.int .i64 k,.string s] W fun e w'=>e= .returned (.string d0)∧Below W.heap.size W w'):=fun W hT=>OF W hT k s (by omega) d0 hd0
 go_enter func163,ntmps163
 go_upto_region 7 with (fail)
 obtain⟨w0,hw0⟩:∃w0,(w.setCell ⟨m+1,1,none⟩ (.int .u64 ((L.length:Int)+1))).alloc (.cells #[.int .i64 0,.int .u64 L.length] 249)=w0:=⟨_,rfl⟩;rw[hw0];have hsz0:(w.setCell ⟨m+1,1,none⟩ (.int .u64 ((L.length:Int)+1))).heap.size=w.heap.size:=by simp
 have hal:∀q,q<w.heap.size->w0.heap[q]? = (w.setCell ⟨m+1,1,none⟩ (.int .u64 ((L.length:Int)+1))).heap[q]? := fun q hq=>by
  rw[<-hw0];exact(MapKept.heap_alloc _ _).2 q (by rw[hsz0];exact hq)
 have hblk0:w0.heap[m+1]? = some (.cells #[.int .i64 k,.int .u64 ((L.length:Int)+1),.map (some m)] 172 (0,0)):=by
  rw[hal _ hlt];exact Lp w (m+1) 1 _ 172 (.int .u64 ((L.length:Int)+1)) hF.blk
 have hlst0:w0.heap[w.heap.size]? = some (.cells #[.int .i64 0,.int .u64 L.length] 249 (0,0)):=by
  have:=Lt (w.setCell ⟨m+1,1,none⟩ (.int .u64 ((L.length:Int)+1))) (.cells #[.int .i64 0,.int .u64 L.length] 249);rw[hsz0,hw0] at this;exact this
 have hmp0:Mp w0 m (ff (clk k) L):=hF.mp.same (by rw[hal m (by omega)];exact Below.heap_setCell _ _ _ _ (by simp))
 have hz0:w.heap.size<w0.heap.size:=(Array.getElem?_eq_some_iff.1 hlst0).1
 have hch0:Chf m w w0:=by
  have h:=(Chf.refl m w).set (b:=m+1) 1 (.int .u64 ((L.length:Int)+1)) (.inl rfl) (by omega)
  have:=h.next (w2:=w0) (by rw[<-hw0];exact bal (Lb _ _) _) (by omega)
  exact this
 have c0:w0.cell? ⟨m+1,0,none⟩=some (.int .i64 k):=by rw[cell_of_row w0 (m+1) 0 _ _ (0,0) hblk0];rfl
 have hTb0:=ht.chf hF hch0;have HTb:Hid (∀W,Chf m w W->Tb W):=fun W hc=>ht.chf hF hc
 clear hw0 hsz0 hal c1 f1 h1 h2 hw1
 go_upto_region 8 with (go_at_call 145;with_reducible refine(HLf.out _ hTb0).mono ?_;rintro e w1 ⟨rfl,hb1⟩)
 have hblk1:w1.heap[m+1]? = _:=(hb1.block (m+1) (by omega)).trans hblk0
 have hlst1:w1.heap[w.heap.size]? = _:=(hb1.block w.heap.size hz0).trans hlst0;have hmp1:=hmp0.same (hb1.block m (by omega))
 have hch1:=hch0.next hb1 (by omega)
 obtain⟨es,cl,hup,hmp2⟩:=(hmp1.same (W:=w1.drew) rfl).write (h:=0) (k:=L.length) ⟨⟨by omega,by omega⟩,by omega⟩ d0
 have hd0':nd (clk k) (L++[s]) 0 L.length=d0:=by rw[nd,<-hd0];simp
 rw[<-hd0',Qjv] at hmp2;have hch2:Chf m w (ChangeMaps.setBlock w1.drew m (.map es cl)):=(Chf.next hch1 (Lb _ _).drew (by omega)).put _
 have hblk2:(ChangeMaps.setBlock w1.drew m (.map es cl)).heap[m+1]? = _:=(UY _ (by omega)).trans hblk1
 have hlst2:(ChangeMaps.setBlock w1.drew m (.map es cl)).heap[w.heap.size]? = _:=(UY _ (by omega)).trans hlst1
 obtain⟨w2,hw2⟩:∃w2,ChangeMaps.setBlock w1.drew m (.map es cl)=w2:=⟨_,rfl⟩;rw[hw2] at hup hmp2 hch2 hblk2 hlst2;have x2:w1.cell? ⟨m+1,2,none⟩=some (.map (some m)):=by rw[cell_of_row w1 (m+1) 2 _ _ (0,0) hblk1];rfl
 have y0:w1.cell? ⟨w.heap.size,0,none⟩=some (.int .i64 0):=by rw[cell_of_row w1 _ 0 _ _ (0,0) hlst1];rfl
 have y1:w1.cell? ⟨w.heap.size,1,none⟩=some (.int .u64 L.length):=by rw[cell_of_row w1 _ 1 _ _ (0,0) hlst1];rfl
 unfold kv nv at hup;clear hw2 hmp0 hmp1 hch0 hch1 hblk0 hlst0 hb1 hTb0 c0 HLf hblk1 hlst1;have HTr:Hid (∀W,Calls prog 253 #[.int .u64 ((L.length:Int)+1)] W fun e w'=>e= .returned (.int .i64 t)∧W=w'):=fun W=>(JW (L.length+1) W (by omega) t hT).mono fun _ _ h=>⟨h.1,h.2.symm⟩
 have HAp:Hid (Ap w (w2.alloc (.cells #[.string d0] 9)) m k L s 0 (.slice (Zp w2.heap.size) 1 1)):=by
  have hz2:w.heap.size<w2.heap.size:=(Array.getElem?_eq_some_iff.1 hlst2).1
  refine⟨((MapKept.heap_alloc _ _).2 _ (by omega)).trans hblk2,((MapKept.heap_alloc _ _).2 _ hz2).trans ?_,hmp2.same ((MapKept.heap_alloc _ _).2 _ (by omega)),?_,hch2.next (bal (Lb _ _) _) (by omega)⟩
  ·rw[hlst2];simp
  ·rw[QmQ,Le,LR,Nx,hd0'];exact QO (Qda w2 d0) (by omega)
 have hc5:(w2.alloc (.cells #[.string d0] 9)).cell? ⟨m+1,1,none⟩=some (.int .u64 ((L.length:Int)+1)):=by rw[cell_of_row _ (m+1) 1 _ _ (0,0) HAp.out.blk];rfl
 have hsh:∀q,q<w2.heap.size->(w2.alloc (.cells #[.string d0] 9)).heap[q]? = w2.heap[q]? := fun q hq=>(MapKept.heap_alloc _ _).2 _ hq
 have ht16:t<=16:=by rw[<-hT];exact Qlq (by omega) (by omega)
 clear hsh hmp2 hch2 hblk2 hlst2
 go_region
 go_wp2_with (go_at_call 253;with_reducible refine(HTr.out _).mono ?_;rintro e w3 ⟨rfl,rfl⟩)
 have HK:=Qd hF;have hkk:=Qs k;have HDd:Hid (d0=nd (clk k) (L++[s]) 0 ((L.length+1)/2^0-1)):=by show d0=_;rw[Iv,Nat.div_one,Nx,hd0']
 have HHT:=Qd hT;clear HTr hc5 x2 y0 y1 hup hd0' hd0 ht hF hs hz0 hT;generalize w2.alloc (.cells #[.string d0] 9)=w3 at *;generalize w2.heap.size=z2 at *
 go_loopg [7,8,50] t (fun g x v i wr=> ∃(j:Nat) (d:BA),j<=t∧g=t-j∧x= .string d∧Hid (d=nd (clk k) (L++[s]) j ((L.length+1)/2^j-1))∧i= .int .i64 j∧Hid (Ap w wr m k L s j v))
 case atStart=>go_light;exact⟨0,d0,Ln _,rfl,rfl,HDd,rfl,HAp⟩
 case round=>
  clear HAp HDd;obtain⟨j,d,hj,rfl,rfl,HDj,rfl,HA⟩:=hrel
  by_cases hjt:j<t
  ·have hz:(j:Int)<(t:Int):=by omega
   have hz0:(0:Int)<=(j:Int):=Lh _;have hz9:(j:Int)<=16:=by omega
   obtain⟨q',hq'⟩:=Qln (j:=j+1) HHT.out (by omega)
   obtain⟨q,rfl⟩:∃q,q'=q+1:=⟨q'-1,by
    have:q'≠0:=by rintro rfl;simp at hq'
    omega⟩
   have e1:(L.length+1)/2^(j+1)-1=q:=by rw[QgI hq'];omega
   have e2:(L.length+1)/2^j-1=2*q+1:=by
    rw[QgI (q:=2*(q+1)) (by rw[hq',LJ,L5])];omega
   obtain⟨a,ha⟩:∃a,2*q+1=a:=⟨_,rfl⟩;have hab:a<=L.length+1:=by rw[<-ha,<-e2];exact Lu (Nat.sub_le _ _) (NO _ _)
   have ha1:(1:Int)<=(a:Int):=by omega
   have ha2:(a:Int)<=65536:=by omega
   obtain⟨lf,hlf⟩:∃lf,nd (clk k) (L++[s]) j (2*q)=lf:=⟨_,rfl⟩;have hb:=HA.out.blk;have hl:=HA.out.lst;rw[e2,ha] at hl;have z0:wr.cell? ⟨m+1,0,none⟩=some (.int .i64 k):=by rw[cell_of_row wr (m+1) 0 _ _ (0,0) hb];rfl
   have z2:wr.cell? ⟨m+1,2,none⟩=some (.map (some m)):=by rw[cell_of_row wr (m+1) 2 _ _ (0,0) hb];rfl
   have l0:wr.cell? ⟨w.heap.size,0,none⟩=some (.int .i64 j):=by rw[cell_of_row wr _ 0 _ _ (0,0) hl];rfl
   have l1:wr.cell? ⟨w.heap.size,1,none⟩=some (.int .u64 a):=by rw[cell_of_row wr _ 1 _ _ (0,0) hl];rfl
   have hlook:=(HA.out.mp.same (W:=wr.drew) rfl).look (h:=(j:Int)) (k:=2*q) ⟨⟨by omega,by omega⟩,by omega⟩ false
   rw[Qme (clk k) L s j q hq',hlf] at hlook;unfold kv nv at hlook;rw[show((2*q:Nat):Int)=(a:Int)-1 by omega] at hlook
   simp only[Option.getD_some,Bool.false_eq_true,if_false] at hlook;obtain⟨d',hd'⟩:∃d',dg (clk k) (Qz lf d)=d':=⟨_,rfl⟩;have zl:lf.size=clk k:=by rw[<-hlf];exact Ye hkk _ _ _
   have zd:d.size=clk k:=by rw[HDj.out];exact Ye hkk _ _ _
   have HNd:Hid (∀W,Tb W->Calls prog 227 #[.int .i64 k,.string lf,.string d] W fun e w'=>e= .returned (.string d')∧Below W.heap.size W w'):=fun W hT=>YW W hT k lf d (by omega) (by omega) d' hd'
   have HD2:Hid (d'=nd (clk k) (L++[s]) (j+1) ((L.length+1)/2^(j+1)-1)):=by
    show d'=_
    rw[e1,nd,hlf,<-hd',HDj.out,e2]
   have hTw:=(HTb.out wr HA.out.ch);have HTd:Hid (Tb wr.drew):=⟨hTw.rs⟩;have hfl:=Qmd wr.drew lf;have HW:Hid (∀W,Below wr.drew.heap.size wr.drew W->W.cell? ⟨w.heap.size,0,none⟩=some (.int .i64 j)∧W.cell? ⟨w.heap.size,1,none⟩=some (.int .u64 a)∧W.frozen? ⟨w.heap.size,0,none⟩=false∧W.frozen? ⟨w.heap.size,1,none⟩=false ∧
     W.heap[w.heap.size]? = some (.cells #[.int .i64 j,.int .u64 a] 249 (0,0))∧W.heap[m+1]? = some (.cells #[.int .i64 k,.int .u64 ((L.length+1:Nat):Int),.map (some m)] 172 (0,0))∧Mp W m (fj (clk k) L s j)∧Chf m w W ∧ ∀v l,Qg wr (w.heap.size+1) v l->Qg W (w.heap.size+1) v l):=fun W hbW=>by
    have hlw:=(hbW.block w.heap.size (Array.getElem?_eq_some_iff.1 hl).1).trans hl
    have hm1:m+1<wr.heap.size:=(Array.getElem?_eq_some_iff.1 hb).1
    refine⟨?_,?_,frozen_of_row W _ 0 _ _ hlw,frozen_of_row W _ 1 _ _ hlw,hlw,(hbW.block (m+1) hm1).trans hb,HA.out.mp.same (hbW.block m (by show m<wr.heap.size;omega)),HA.out.ch.trans (Chf.of (w:=wr) ⟨hbW.os,hbW.tape,hbW.output,hbW.size,hbW.block⟩ (by omega)),fun v l ho=>Qx (w:=wr) ho ⟨hbW.os,hbW.tape,hbW.output,hbW.size,hbW.block⟩ (La _)⟩
    ·rw[cell_of_row W _ 0 _ _ (0,0) hlw];rfl
    ·rw[cell_of_row W _ 1 _ _ (0,0) hlw];rfl
   clear hb hl zl zd hd' HDj hTw
   go_upto_region 12 with (fail)
   go_region
   go_upto_region 15 with (go_at_call 227;with_reducible refine(HNd.out _ HTd.out).mono ?_;rintro e w4 ⟨rfl,hb4⟩;obtain⟨p0,p1,p2,p3,P⟩:=HW.out _ hb4)
   obtain⟨hl4,hb5,hm4,hc4,ho4⟩:=P;have es1:=Lp w4 w.heap.size 0 _ 249 (.int .i64 ((j:Int)+1)) hl4;have es2:=Lp _ w.heap.size 1 _ 249 (.int .u64 ((a:Int)/2)) es1;have hm1:m+1<w.heap.size:=HK.out.lt;have hnb:∀b,b≠w.heap.size->((w4.setCell ⟨w.heap.size,0,none⟩ (.int .i64 ((j:Int)+1))).setCell ⟨w.heap.size,1,none⟩ (.int .u64 ((a:Int)/2))).heap[b]? = w4.heap[b]? := fun b hb=>
    (Below.heap_setCell _ ⟨w.heap.size,1,none⟩ _ b hb).trans (Below.heap_setCell _ ⟨w.heap.size,0,none⟩ _ b hb)
   have hc5:Chf m w ((w4.setCell ⟨w.heap.size,0,none⟩ (.int .i64 ((j:Int)+1))).setCell ⟨w.heap.size,1,none⟩ (.int .u64 ((a:Int)/2))) :=
    (hc4.set 0 _ (.inr (La _)) (by omega)).set 1 _ (.inr (La _)) (by omega)
   have hb6:=(hnb (m+1) (by omega)).trans hb5
   have hm5:=hm4.same (hnb m (by omega))
   have ho5:∀v l,Qg wr (w.heap.size+1) v l->Qg ((w4.setCell ⟨w.heap.size,0,none⟩ (.int .i64 ((j:Int)+1))).setCell ⟨w.heap.size,1,none⟩ (.int .u64 ((a:Int)/2))) (w.heap.size+1) v l:=fun v l ho=>by
    obtain⟨g1,g2⟩:=ho4 v l ho;refine⟨g1,?_⟩
    rcases g2 with g2|⟨g,cap,cur,rfl,hg,hh,r⟩
    ·exact .inl g2
    ·exact .inr ⟨g,cap,cur,rfl,hg,(hnb g (by omega)).trans hh,r⟩
   obtain⟨w5,hw5⟩:∃w5,(w4.setCell ⟨w.heap.size,0,none⟩ (.int .i64 ((j:Int)+1))).setCell ⟨w.heap.size,1,none⟩ (.int .u64 ((a:Int)/2))=w5:=⟨_,rfl⟩;rw[hw5] at es2 hc5 hb6 hm5;rw[hw5];have hl5:w5.heap[w.heap.size]? = some (.cells #[.int .i64 ((j:Int)+1),.int .u64 ((a:Int)/2)] 249 (0,0)):=es2;have ho6:∀v l,Qg wr (w.heap.size+1) v l->Qg w5 (w.heap.size+1) v l:=fun v l ho=>by rw[<-hw5];exact ho5 v l ho
   obtain⟨es,cl,hup,hm6⟩:=(hm5.same (W:=w5.drew) rfl).write (h:=((j+1:Nat):Int)) (k:=q) ⟨⟨by omega,by omega⟩,by omega⟩ d'
   rw[show d'=nd (clk k) (L++[s]) (j+1) q by rw[HD2.out,e1],Qmf (clk k) L s j q hq'] at hm6
   have hz5:w.heap.size<w5.heap.size:=(Array.getElem?_eq_some_iff.1 hl5).1
   have hc6:Chf m w (ChangeMaps.setBlock w5.drew m (.map es cl)):=(Chf.next hc5 (Lb _ _).drew (by omega)).put _
   have hb7:(ChangeMaps.setBlock w5.drew m (.map es cl)).heap[m+1]? = _:=(UY _ (by omega)).trans hb6
   have hl6:(ChangeMaps.setBlock w5.drew m (.map es cl)).heap[w.heap.size]? = _:=(UY _ (by omega)).trans hl5
   have ho7:Qg (ChangeMaps.setBlock w5.drew m (.map es cl)) (w.heap.size+1) u8 (nw (clk k) (L++[s]) j):=by
    obtain⟨g1,g2⟩:=ho6 _ _ HA.out.own;refine⟨g1,?_⟩
    rcases g2 with g2|⟨g,cap,cur,e,hg,hh,r⟩
    ·exact .inl g2
    ·exact .inr ⟨g,cap,cur,e,hg,(UY _ (by omega)).trans hh,r⟩
   obtain⟨w6,hw6⟩:∃w6,ChangeMaps.setBlock w5.drew m (.map es cl)=w6:=⟨_,rfl⟩;rw[hw6] at hup hm6 hc6 hb7 hl6 ho7;have x2:w5.cell? ⟨m+1,2,none⟩=some (.map (some m)):=by rw[cell_of_row w5 (m+1) 2 _ _ (0,0) hb6];rfl
   have y0:w5.cell? ⟨w.heap.size,0,none⟩=some (.int .i64 ((j:Int)+1)):=by rw[cell_of_row w5 _ 0 _ _ (0,0) hl5];rfl
   have y1:w5.cell? ⟨w.heap.size,1,none⟩=some (.int .u64 ((a:Int)/2)):=by rw[cell_of_row w5 _ 1 _ _ (0,0) hl5];rfl
   unfold kv nv at hup;have ea:(a:Int)/2=(q:Int):=by omega
   rw[<-ea,show((j+1:Nat):Int)=(j:Int)+1 by omega] at hup
   have HY:Hid (d'.size<=9223372036854775807):=by show d'.size<=_;rw[HD2.out,Ye hkk];omega
   have HO:=Qd ho7;have HZ6:Hid (w.heap.size<w6.heap.size):=(Array.getElem?_eq_some_iff.1 hl6).1
   have HLn:Hid ((nw (clk k) (L++[s]) j).length<=17):=by show _<=_;rw[QoT];omega
   have HG:Hid (Mp w6 m (fj (clk k) L s (j+1))∧Chf m w w6∧w6.heap[m+1]? = some (.cells #[.int .i64 k,.int .u64 ((L.length+1:Nat):Int),.map (some m)] 172 (0,0))∧w6.heap[w.heap.size]? = some (.cells #[.int .i64 ((j+1:Nat):Int),.int .u64 (((L.length+1)/2^(j+1)-1:Nat):Int)] 249 (0,0))∧m+1<w.heap.size) :=
    ⟨hm6,hc6,hb7,by rw[hl6,e1,<-ea];rfl,hm1⟩
   clear hw6 hw5 es1 es2 hb4 hl4 hb5 hm4 hc4 ho4 hnb hc5 hb6 hm5 ho5 hl5 ho6 hm6 hz5 hc6 hb7 hl6 ho7 hlook hfl HW HNd HTd z0 z2 l0 l1 p0 p1 p2 p3 ea hq' e1 e2 hab
   go_region
   go_wp2_with (at_builtin;refine QY _ rfl _ _ rfl (w.heap.size+1) _ _ rfl (Yf HO.out _) (Zp w6.heap.size) w6.heap.size 0 1 [d'] rfl (Uf w6 d' HY.out) (fun h=>by cases h) ?c1 ?c2 ?_)
   case c1=>have:=HLn.out;simp;omega
   case c2=>have:=HZ6.out;simp;omega
   intro v2 w7 h7 hb7;have HA2:Hid (Ap w w7 m k L s (j+1) v2):=by
    obtain⟨g1,g2,g3,g4,g5⟩:=HG.out;have hz6:=HZ6.out;have hbb:Below (w.heap.size+1) w6 w7:=((Lb _ _).alloc (by omega) _).trans hb7
    have hcc:Chf m w w7:=⟨g2.below.trans (hbb.mono (by omega)),fun b hb x y=>(hbb.block b (by omega)).trans (g2.block b hb x y)⟩
    refine⟨(hbb.block _ (by omega)).trans g3,(hbb.block _ (by omega)).trans g4,g1.same (hbb.block m (by omega)),?_,hcc⟩
    rw[QmP,Le,LR,<-HD2.out];exact h7
   clear h7 hb7;go_wp2
   go_roundg (t-(j+1))
   case rel=>go_light;exact⟨j+1,d',by omega,rfl,rfl,HD2,by go_num,HA2⟩
   case measure=>go_light;omega
  ·obtain rfl:j=t:=by omega
   have hz:¬((j:Int)<(j:Int)):=by omega
   go_wp2
   go_ret2
   have hm2:=HA.out.mp;rw[Qox (clk k) L s j hL HHT.out] at hm2;refine⟨_,rfl,⟨?_,hm2,HK.out.k1,HK.out.k2,by simp;omega⟩,QO HA.out.own (by omega),HA.out.ch⟩
   rw[HA.out.blk];simp
structure Wy(n i:Nat)(A:List (Nat×Nat))(H:Nat)(B:List (Nat×Nat)):Prop where
 all:Cv.dnL 41 0 n=A++(H,i/2^H)::B
 hH:H<=40
 left:∀a∈A,(a.2+1)*2^a.1<=i
 right:∀b∈B,i<b.2*2^b.1
theorem Qjh(n:Nat):∀h lo,2^h ∣ lo -> ∀b∈Cv.dnL h lo n,lo<=b.2*2^b.1
 | 0,lo,_,b,hb=>by cases hb
 | h+1,lo,hd,b,hb=>by
  have hp:=LP h;have hd':2^h ∣ lo:=Nat.dvd_trans (Wz 2 (by omega)) hd
  rw[Cv.dnL,show Pl.pw h=2^h from rfl] at hb
  split at hb
  ·rcases List.mem_cons.1 hb with rfl|hb
   ·show lo<=lo/2^h*2^h
    rw[Nat.div_mul_cancel hd'];exact La _
   ·have:=Qjh n h (lo+2^h) (Nat.dvd_add hd' (Nat.dvd_refl _)) b hb;omega
  ·exact Qjh n h lo hd' b hb
theorem Qfm(n i:Nat)(hi:i<n):∀h lo,lo<=i->n-lo<2^h->2^h ∣ lo -> ∃A H B,Cv.dnL h lo n=A++(H,i/2^H)::B∧H<h∧(∀a∈A,(a.2+1)*2^a.1<=i) ∧ ∀b∈B,i<b.2*2^b.1
 | 0,lo,h1,h2,_=>by rw[Iv] at h2;omega
 | h+1,lo,h1,h2,hd=>by
  have hp:=LP h;have hd':2^h ∣ lo:=Nat.dvd_trans (Wz 2 (by omega)) hd
  have hd2:2^h ∣ lo+2^h:=Nat.dvd_add hd' (Nat.dvd_refl _);rw[LJ] at h2;rw[Cv.dnL,show Pl.pw h=2^h from rfl]
  by_cases hf:2^h<=n-lo
  ·rw[Lm hf]
   by_cases hm:i<lo+2^h
   ·refine⟨[],h,Cv.dnL h (lo+2^h) n,?_,by omega,(fun a ha=>by cases ha),fun b hb=> ?_⟩
    ·have:i/2^h=lo/2^h:=by
      obtain⟨q,rfl⟩:=hd';rw[IQ _ hp];exact I3 (by rw[LU];omega) (by rw[LT,LU];omega)
     rw[this];rfl
    ·have:=Qjh n h _ hd2 b hb;omega
   ·obtain⟨A,H,B,e,hH,hl,hr⟩:=Qfm n i hi h (lo+2^h) (by omega) (by omega) hd2
    refine⟨(h,lo/2^h)::A,H,B,by rw[e];rfl,by omega,fun a ha=> ?_,hr⟩
    rcases List.mem_cons.1 ha with rfl|ha
    ·show(lo/2^h+1)*2^h<=i
     rw[LT,Nat.div_mul_cancel hd'];omega
    ·exact hl a ha
  ·rw[Ld hf];obtain⟨A,H,B,e,hH,hl,hr⟩:=Qfm n i hi h lo h1 (by omega) hd'
   exact⟨A,H,B,e,by omega,hl,hr⟩
theorem QpQ(n i:Nat)(hn:n<=2^40)(hi:i<n):∃A H B,Wy n i A H B:=by
 obtain⟨A,H,B,e,hH,hl,hr⟩:=Qfm n i hi 41 0 (Ln _) (by omega) (Nat.dvd_zero _)
 exact⟨A,H,B,e,by omega,hl,hr⟩
section
variable {n i H:Nat} {A B:List (Nat×Nat)}
theorem Wy.len(h:Wy n i A H B):A.length+B.length<=40:=by
 have:=Cv.Qah 41 0 n;rw[h.all,Le,LD] at this;omega
theorem Wy.no_left(h:Wy n i A H B){a:Nat×Nat}(ha:a∈A):a.2<i/2^a.1:=by
 have:=h.left a ha;exact(Nat.le_div_iff_mul_le (LP _)).2 this
theorem Wy.no_right(h:Wy n i A H B){b:Nat×Nat}(hb:b∈B):i/2^b.1<b.2:=by
 have:=h.right b hb;exact(IX (LP _)).2 this
end
theorem Qji(n:Nat)(hn:n<=2^40):∀b∈Cv.dnL 41 0 n,(b.2+1)*2^b.1<=n:=by
 have:=(Ug 1 (List.replicate n ByteArray.empty) n (by simp) hn).2
 rwa [Cv.Q0 n hn] at this
def sb(q:Nat):Nat:=if q%2=1 then q-1 else q+1
def bes(i:Nat)(H:Nat):List (Nat×Nat):=(List.range H).map fun h=>(h,sb (i/2^h))
theorem U3(i H:Nat):(bes i H).length=H:=by simp[bes]
theorem QdM(i H:Nat):bes i (H+1)=bes i H++[(H,sb (i/2^H))]:=by simp[bes,List.range_succ]
theorem Qaj(i h:Nat):i/2^h/2=i/2^(h+1):=by rw[L3,<-LJ]
theorem Qoa{i H:Nat} : ∀b∈bes i H,(b.2+1)*2^b.1<=(i/2^H+1)*2^H:=by
 intro b hb;obtain⟨h,hh,rfl⟩:=List.mem_map.1 hb;have hh:=List.mem_range.1 hh;obtain⟨d,rfl⟩:∃d,H=h+1+d:=⟨H-h-1,by omega⟩
 have h1:(sb (i/2^h)+1)<=(i/2^(h+1)+1)*2:=by
  rw[<-Qaj];generalize i/2^h=q;unfold sb
  split <;> omega
 have h2:(sb (i/2^h)+1)*2^h<=(i/2^(h+1)+1)*2^(h+1):=by
  rw[LJ,<-L5,Nat.mul_right_comm];exact LM _ (by rw[<-LJ];exact h1)
 refine Lu h2 ?_
 have h3:i/2^(h+1)+1<=(i/2^(h+1+d)+1)*2^d:=by
  have e:i/2^(h+1+d)=i/2^(h+1)/2^d:=by rw[L3,<-Im]
  rw[e];exact Nat.lt_mul_of_div_lt (IH _) (LP d)
 calc (i/2^(h+1)+1)*2^(h+1)<=(i/2^(h+1+d)+1)*2^d*2^(h+1):=LM _ h3
  _=(i/2^(h+1+d)+1)*2^(h+1+d):=by rw[L5,<-Im,I5 d]
def wyB(i H:Nat)(A B:List (Nat×Nat)):List (Nat×Nat):=bes i H++(A++B)
theorem Qg8(i H:Nat)(A B:List (Nat×Nat)):(wyB i H A B).length=H+(A.length+B.length):=by simp[wyB,U3]
theorem Wy.inn{n i H:Nat}{A B:List (Nat×Nat)}(h:Wy n i A H B)(hn:n<=2^40):∀b∈wyB i H A B,(b.2+1)*2^b.1<=n:=by
 have hall:=Qji n hn;rw[h.all] at hall;intro b hb;rw[wyB,List.mem_append,List.mem_append] at hb
 rcases hb with hb|hb|hb
 ·exact Lu (Qoa b hb) (hall (H,i/2^H) (by simp))
 ·exact hall b (by simp[hb])
 ·exact hall b (by simp[hb])
def stT(q:Nat)(d x:BA):BA:=if q%2=1 then Qz x d else Qz d x
def rs(c:Nat):Nat->BA->LB->BA
 | _,d,[]=>d
 | q,d,x::r=>rs c (q/2) (dg c (stT q d x)) r
theorem QfV(c:Nat)(x:BA):∀(D:LB) (q:Nat) (d:BA),rs c q d (D++[x])=dg c (stT (q/2^D.length) (rs c q d D) x)
 | [],q,d=>by simp[rs]
 | y::r,q,d=>by
  rw[N7,rs,QfV c x r,rs,LD,LJ,L3,LU 2]
theorem QgZ{c:Nat}(hc:c<=32):∀(D:LB) (q:Nat) (d:BA),d.size=c->(rs c q d D).size=c
 | [],_,_,h=>h
 | y::r,q,d,_=>by
  rw[rs];exact QgZ hc r _ _ (Ys hc _)
theorem Qn1(c:Nat)(L:LB)(i:Nat):∀H,rs c i (nd c L 0 i) ((bes i H).map fun b=>nd c L b.1 b.2)=nd c L H (i/2^H)
 | 0=>by simp[bes,rs]
 | H+1=>by
  have ih:=Qn1 c L i H;rw[QdM,LL,Iy,List.map_nil,QfV,ih,LC,U3,<-Qaj]
  show dg c (stT (i/2^H) (nd c L H (i/2^H)) (nd c L H (sb (i/2^H))))=dg c (Qz (nd c L H (2*(i/2^H/2))) (nd c L H (2*(i/2^H/2)+1)))
  generalize i/2^H=q;unfold stT sb
  by_cases h:q%2=1
  ·rw[Lm h,Lm h,show 2*(q/2)=q-1 by omega,show q-1+1=q by omega]
  ·rw[Ld h,Ld h,show 2*(q/2)=q by omega]
def pkP(c i:Nat)(a H:Nat)(D:LB)(x:BA):LB:=(D.drop H).take a++rs c i (dg c (Yx x)) (D.take H)::(D.drop H).drop a
def rtP(c n i a H:Nat)(D:LB)(x:BA):BA:=dg c (YA n (QU c (pkP c i a H D x)))
def dgP(c:Nat)(L:LB)(i H:Nat)(A B:List (Nat×Nat)):LB:=(wyB i H A B).map fun b=>nd c L b.1 b.2
theorem QcC(c:Nat)(L:LB)(i H:Nat)(A B:List (Nat×Nat)):(dgP c L i H A B).length=H+(A.length+B.length):=by rw[dgP,LC,Qg8]
theorem Qd0{c:Nat}(hc:c<=32)(L:LB)(i H:Nat)(A B:List (Nat×Nat)):∀s∈dgP c L i H A B,s.size=c:=by
 intro s hs;obtain⟨b,_,rfl⟩:=List.mem_map.1 hs;exact Ye hc _ _ _
theorem QeB{c n i H:Nat}{A B:List (Nat×Nat)}{L:LB}(h:Wy n i A H B)(hn:n<=2^40)(hL:n<=L.length):pkP c i A.length H (dgP c L i H A B) (L.getD i ByteArray.empty)=pks c (L.take n) 41:=by
 have hp:=(Ug c L n hL hn).1;rw[Cv.Q0 n hn,h.all,LL,Iy] at hp;rw[<-hp,pkP];have e1:(dgP c L i H A B).take H=(bes i H).map fun b=>nd c L b.1 b.2:=by
  rw[dgP,wyB,LL,Iw (by rw[LC,U3])]
 have e2:(dgP c L i H A B).drop H=(A++B).map fun b=>nd c L b.1 b.2:=by
  rw[dgP,wyB,LL,IJ (by rw[LC,U3])]
 rw[e1,e2,LL,Iw (by rw[LC]),IJ (by rw[LC])]
 have:=Qn1 c L i H;rw[show nd c L 0 i=dg c (Yx (L.getD i ByteArray.empty)) from rfl] at this
 rw[this]
end Go.Proofs.YtoblgjledefdbaaGreatDoor
