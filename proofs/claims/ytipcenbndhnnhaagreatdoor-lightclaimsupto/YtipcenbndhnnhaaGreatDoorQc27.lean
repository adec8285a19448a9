/- Own work. -/
import Derived.RegionTactic
import Derived.Test.YtipcenbndhnnhaaGreatDoorQc16
import Derived.Test.YtipcenbndhnnhaaGreatDoorQc26
namespace Go.Proofs.YtipcenbndhnnhaaGreatDoor
open Go.RowKit
attribute [local go_sem ↓] Go.wp_at_zero Go.wp_at_succ
structure Tr (w:World):Prop where
 rr:w.rangeAt 1 0 (cW RS)
 iv:w.rangeAt 0 0 (cW IV)
theorem Tr.next {w W:World} (h:Tr w) (hb:Below w.heap.size w W):Tr W :=
 ⟨range_below hb (range_lt h.rr (cW_ne (by rw [RS_len]; decide))) h.rr,range_below hb (range_lt h.iv (cW_ne (by decide))) h.iv⟩
theorem ref_one (w:World) (ht:Tr w) (t:ByteArray) (hs:t.size<1152921504606846976) (r:ByteArray) (hr:shaS RS (tB t)=r) :
  Calls Tryz.prog 98 #[.slice (some ⟨w.heap.size,0,none⟩) 1 1] (w.alloc (.cells #[.string t] 9)) fun e w'=>e = .returned (.string r)∧Below w.heap.size w w':=by
 subst hr
 have e:flat [t]=tB t:=by simp [flat]
 refine (refOf_any _ (some ⟨w.heap.size,0,none⟩) w.heap.size 0 1 1 [t] rfl (fun _=>rfl) (range_new w [.string t] 9) (by decide) RS RS_len (World.rangeAt_alloc ht.rr _) (World.rangeAt_alloc ht.iv _) (by rw [e,tB_len]; exact hs)).mono fun e' w' ⟨he,hb'⟩=>⟨?_,?_⟩
 ·rw [he,e]
 ·exact ((Below.refl _ _).alloc (Nat.le_refl _) _).trans (hb'.mono (by simp))
set_option maxRecDepth 100000 in
theorem refof_any (w:World) (ht:Tr w) (k:Int) (t:ByteArray) (hs:t.size<1152921504606846976) (r:ByteArray) (hr:dg (clk k) t=r) :
  Calls Tryz.prog 52 #[.int .i64 k,.string t] w fun e w'=>e = .returned (.string r)∧Below w.heap.size w w':=by
 subst hr
 have HS:=ref_one w ht t hs _ rfl
 unfold dg
 have hz:=shaS_size RS (tB t)
 generalize shaS RS (tB t)=z at *
 clear ht hs
 unfold clk
 go_enter Tryz.func52,Tryz.ntmps52
 by_cases h1:k<1
 ·rw [if_pos h1]
  go_wp2_with (go_at_call 98; with_reducible refine HS.mono ?_; rintro e w1 ⟨rfl,hb1⟩)
  go_ret
  exact ⟨rfl,hb1⟩
 ·by_cases h2:32<k
  ·rw [if_neg h1,if_pos h2]
   go_wp2_with (go_at_call 98; with_reducible refine HS.mono ?_; rintro e w1 ⟨rfl,hb1⟩)
   go_ret
   exact ⟨rfl,hb1⟩
  ·rw [if_neg h1,if_neg h2]
   obtain ⟨c,rfl⟩ : ∃ c:Nat,k=(c:Int):=⟨k.toNat,by omega⟩
   have h3:(0:Int)≤(c:Int):=by omega
   have h4:(c:Int)≤32:=by omega
   rw [Int.toNat_natCast]
   go_wp2_with (go_at_call 98; with_reducible refine HS.mono ?_; rintro e w1 ⟨rfl,hb1⟩)
   go_ret
   exact ⟨rfl,hb1⟩
theorem refcheck_any (w:World) (k:Int):Calls Tryz.prog 17 #[.int .i64 k] w fun e w'=>e = .returned (.int .i64 (chk k))∧w'=w:=by
 unfold chk
 go_enter Tryz.func17,Tryz.ntmps17
 by_cases h1:k<1
 ·rw [if_pos (.inl h1)]
  go_wp2
  go_ret
  simp
 ·by_cases h2:32<k
  ·rw [if_pos (.inr h2)]
   go_wp2
   go_ret
   simp
  ·rw [if_neg (by omega)]
   go_wp2
   go_ret
   simp
set_option maxRecDepth 100000 in
theorem reftext_any (w:World) (f:Int) (a b:ByteArray) (hs:a.size<2305843009213693952) (hs2:b.size<2305843009213693952) (r:ByteArray) (hr:(strB [f]++a)++b=r) :
  Calls Tryz.prog 99 #[.int .u8 f,.string a,.string b] w fun e w'=>e = .returned (.string r)∧Below w.heap.size w w':=by
 subst hr
 have cv:=conv_one w f
 have hz:=one_size f
 generalize strB [f]=z at *
 have hns : ¬ (9223372036854775807<1+a.size):=by omega
 have hns2 : ¬ (9223372036854775807<1+a.size+b.size):=by omega
 go_enter Tryz.func99,Tryz.ntmps99
 go_wp2
 go_ret
 exact ⟨rfl,bal (Below.refl _ _) _⟩
theorem app_nil (a:ByteArray):a++(⟨#[]⟩:ByteArray)=a:=by
 have:=ByteArray.append_empty (b:=a)
 exact this
set_option maxRecDepth 100000 in
theorem refleaft_any (w:World) (s:ByteArray) (hs:s.size<2305843009213693952) :
  Calls Tryz.prog 146 #[.string s] w fun e w'=>e = .returned (.string (leafT s))∧Below w.heap.size w w':=by
 have HT:=reftext_any w 0 s ⟨#[]⟩ hs (by decide) (leafT s) (by rw [app_nil]; rfl)
 generalize leafT s=r at *
 go_enter Tryz.func146,Tryz.ntmps146
 go_wp2_with (go_at_call 99; with_reducible refine HT.mono ?_; rintro e w1 ⟨rfl,hb1⟩)
 go_ret
 exact ⟨rfl,hb1⟩
set_option maxRecDepth 100000 in
theorem refnodet_any (w:World) (a b:ByteArray) (hs:a.size<2305843009213693952) (hs2:b.size<2305843009213693952) :
  Calls Tryz.prog 147 #[.string a,.string b] w fun e w'=>e = .returned (.string (nodeT a b))∧Below w.heap.size w w':=by
 have HT:=reftext_any w 1 a b hs hs2 (nodeT a b) rfl
 generalize nodeT a b=r at *
 go_enter Tryz.func147,Tryz.ntmps147
 go_wp2_with (go_at_call 99; with_reducible refine HT.mono ?_; rintro e w1 ⟨rfl,hb1⟩)
 go_ret
 exact ⟨rfl,hb1⟩
set_option maxRecDepth 100000 in
theorem refbagt_any (w:World) (a b:ByteArray) (hs:a.size<2305843009213693952) (hs2:b.size<2305843009213693952) (r:ByteArray) (hr:bagT a b=r) :
  Calls Tryz.prog 100 #[.string a,.string b] w fun e w'=>e = .returned (.string r)∧Below w.heap.size w w':=by
 have HT:=reftext_any w 2 a b hs hs2 r hr
 go_enter Tryz.func100,Tryz.ntmps100
 go_wp2_with (go_at_call 99; with_reducible refine HT.mono ?_; rintro e w1 ⟨rfl,hb1⟩)
 go_ret
 exact ⟨rfl,hb1⟩
set_option maxRecDepth 100000 in
theorem refleaf_any (w:World) (ht:Tr w) (k:Int) (s:ByteArray) (hs:s.size<140737488355328) (r:ByteArray) (hr:dg (clk k) (leafT s)=r) :
  Calls Tryz.prog 101 #[.int .i64 k,.string s] w fun e w'=>e = .returned (.string r)∧Below w.heap.size w w':=by
 have HL:=refleaft_any w s (by omega)
 have HO:Hid (∀ W,Below w.heap.size w W→Calls Tryz.prog 52 #[.int .i64 k,.string (leafT s)] W fun e w'=>e = .returned (.string r)∧Below W.heap.size W w'):=fun W hb=>refof_any W (ht.next hb) k _ (by rw [leafT_size]; omega) r hr
 clear hr ht hs
 generalize leafT s=t at *
 go_enter Tryz.func101,Tryz.ntmps101
 go_wp2_with (first
  | (go_at_call 146; with_reducible refine HL.mono ?_; rintro e w1 ⟨rfl,hb1⟩)
  | (go_at_call 52; with_reducible refine (HO.out _ hb1).mono ?_; rintro e w2 ⟨rfl,hb2⟩))
 go_ret
 exact ⟨rfl,bnext hb1 hb2⟩
set_option maxRecDepth 100000 in
theorem refnode_any (w:World) (ht:Tr w) (k:Int) (a b:ByteArray) (hs:a.size<140737488355328) (hs2:b.size<140737488355328) (r:ByteArray) (hr:dg (clk k) (nodeT a b)=r) :
  Calls Tryz.prog 102 #[.int .i64 k,.string a,.string b] w fun e w'=>e = .returned (.string r)∧Below w.heap.size w w':=by
 have HL:=refnodet_any w a b (by omega) (by omega)
 have HO:Hid (∀ W,Below w.heap.size w W→Calls Tryz.prog 52 #[.int .i64 k,.string (nodeT a b)] W fun e w'=>e = .returned (.string r)∧Below W.heap.size W w'):=fun W hb=>refof_any W (ht.next hb) k _ (by rw [nodeT_size]; omega) r hr
 clear hr ht hs hs2
 generalize nodeT a b=t at *
 go_enter Tryz.func102,Tryz.ntmps102
 go_wp2_with (first
  | (go_at_call 147; with_reducible refine HL.mono ?_; rintro e w1 ⟨rfl,hb1⟩)
  | (go_at_call 52; with_reducible refine (HO.out _ hb1).mono ?_; rintro e w2 ⟨rfl,hb2⟩))
 go_ret
 exact ⟨rfl,bnext hb1 hb2⟩
set_option maxRecDepth 100000 in
theorem refnum_any (w:World) (n:Nat) (hn:n<18446744073709551616) :
  Calls Tryz.prog 132 #[.int .u64 (n:Int)] w fun x w'=>x = .returned (.string ⟨(num n).toArray⟩)∧Below w.heap.size w w':=by
 have HL:=hideC (num_len (n:=n) hn)
 go_enter Tryz.func132,Tryz.ntmps132
 go_wp2
 go_loopg [0,3] n (fun g x v wr => ∃ (m:Nat) (pre:List UInt8),m=g∧x = .int .u64 (m:Int)∧OwnY wr w.heap.size v pre∧Hid (pre++num m=num n∧m≤n)∧Below w.heap.size w wr)
 case atStart =>
  go_light
  exact ⟨n,[],rfl,rfl,World.ownsRow_nil _ _ _ _,⟨rfl,Nat.le_refl _⟩,Below.refl _ _⟩
 case round =>
  obtain ⟨m,pre,hg,rfl,hown,HP,hb⟩:=hrel
  subst hg
  have HS:Hid (pre.length≤10∧w.heap.size≤wr.heap.size):=by
   have:=congrArg List.length HP.out.1
   rw [List.length_append] at this
   have:=HL.out
   exact ⟨by omega,hb.size⟩
  by_cases hm:m<128
  ·have hm':(m:Int)<128:=by omega
   have HY:=hideC (ofNat_toNat (x:=m) (by omega)).symm
   have HR:Hid (pre++[UInt8.ofNat m]=num n):=by
    have:=HP.out.1
    rw [num_low hm] at this
    exact this
   go_wp2_with (at_builtin; refine wpList_append_Y _ rfl _ _ rfl w.heap.size _ pre rfl hown m (UInt8.ofNat m) HY.out rfl ?c1 ?c2 ?_)
   case c1=>have:=HS.out; omega
   case c2=>exact HS.out.2
   intro v' w2 r1 r2
   have hcv:=owny_conv r1
   rw [HR.out] at hcv
   go_wp2
   go_ret
   exact ⟨rfl,hb.trans r2⟩
  ·have hm' : ¬ (m:Int)<128:=by omega
   have hm2:(128:Int)≤(m:Int):=by omega
   obtain ⟨c,hc⟩ : ∃ c,c=UInt8.ofNat (m % 128+128):=⟨_,rfl⟩
   obtain ⟨y,hy⟩ : ∃ y,y=c.toNat:=⟨_,rfl⟩
   have ey:(m:Int) % 128+128=(y:Int):=by rw [hy,hc,ofNat_toNat (by omega)]; omega
   have HY:=hideC hy
   clear hy
   have HR:Hid ((pre++[c])++num (m / 128)=num n∧m / 128≤n):=by
    have:=HP.out
    rw [num_high (by omega),← hc] at this
    exact ⟨by rw [← this.1]; simp,by omega⟩
   clear hc
   have ew:IntKind.u64.wrap ((m:Int) / 128)=(m:Int) / 128:=by
    have:=HP.out.2
    rw [IntKind.wrap_u64]; omega
   have HQ:Hid ((m:Int) / 128=((m / 128:Nat):Int)∧m / 128<m):=⟨by omega,by omega⟩
   go_wp2_with (at_builtin; refine wpList_append_Y _ rfl _ _ rfl w.heap.size _ pre rfl hown y c HY.out rfl ?c1 ?c2 ?_)
   case c1=>have:=HS.out; omega
   case c2=>exact HS.out.2
   intro v' w2 r1 r2
   have hb2:=hb.trans r2
   clear r2 hb hown
   go_wp2
   go_roundg (m / 128)
   case rel =>
    go_light
    exact ⟨m / 128,_,rfl,by rw [← HQ.out.1],r1,HR.out,hb2⟩
   case measure=>go_light; exact HQ.out.2
abbrev rv (T:ByteArray) (a e:Nat):Value := .agg #[.string T,.int .i64 (a:Int),.int .i64 (e:Int)]
theorem below_drew {B:Nat} {a w:World} (h:Below B a w):Below B a w.drew:=⟨h.os,h.tape,h.output,h.size,h.block⟩
theorem below_twoC (w:World) (o o':Obj):Below w.heap.size w ((w.alloc o).alloc o'):=bal (bal (Below.refl _ _) o) o'
theorem refleft_any (w:World) (T:ByteArray) (a e n:Nat) (ha:a≤T.size) (hn:n=if e=0 then T.size - a else 0) (hT:T.size≤9223372036854775807) :
  Calls Tryz.prog 129 #[rv T a e] w fun x w'=>x = .returned (.int .i64 (n:Int))∧Below w.heap.size w w':=by
 by_cases he:e=0
 ·subst he
  rw [if_pos rfl] at hn
  have eq:(T.size:Int) - (a:Int)=(n:Int):=by omega
  clear hn
  go_enter Tryz.func129,Tryz.ntmps129
  go_wp2
  go_ret
  exact ⟨rfl,(Below.refl _ _).alloc (Nat.le_refl _) _⟩
 ·rw [if_neg he] at hn
  subst hn
  have hz : ¬ (e:Int)=0:=by omega
  go_enter Tryz.func129,Tryz.ntmps129
  go_wp2
  go_ret
  exact ⟨rfl,(Below.refl _ _).alloc (Nat.le_refl _) _⟩
def rtk (T:ByteArray) (a e:Nat) (n:Int):Nat×Nat×ByteArray :=
 if e≠0 then (a,e,ByteArray.empty) else if n<0∨((T.size - a:Nat):Int)<n then (a,60,ByteArray.empty) else (a+n.toNat,0,T.extract a (a+n.toNat))
set_option maxRecDepth 100000 in
theorem reftake_any (w:World) (T:ByteArray) (a e:Nat) (n:Int) (ha:a≤T.size) (hT:T.size≤9223372036854775807) :
  Calls Tryz.prog 130 #[rv T a e,.int .i64 n] w fun x w'=>x = .returned (.tuple #[rv T (rtk T a e n).1 (rtk T a e n).2.1,.string (rtk T a e n).2.2,.int .i64 ((rtk T a e n).2.1:Int)])∧Below w.heap.size w w':=by
 by_cases he:e=0
 ·subst he
  by_cases hn:n<0∨((T.size - a:Nat):Int)<n
  ·have ht:rtk T a 0 n=(a,60,ByteArray.empty):=by rw [rtk,if_neg (by simp),if_pos hn]
   rw [ht]
   have hd:(T.size:Int) - (a:Int)=((T.size - a:Nat):Int):=by omega
   generalize T.size - a=q at *
   by_cases h0:n<0
   ·go_enter Tryz.func130,Tryz.ntmps130
    go_wp2
    go_region
    go_wp2
    refine bodyPost_ret (v := .tuple #[rv T a 60,.string ByteArray.empty,.int .i64 60]) (by simp [results,Tryz.results130,go_sem]; rfl) rfl ⟨rfl,?_⟩
    exact below_drew (below_twoC w _ _)
   ·have h1:(q:Int)<n:=by omega
    go_enter Tryz.func130,Tryz.ntmps130
    go_wp2
    go_region
    go_wp2
    refine bodyPost_ret (v := .tuple #[rv T a 60,.string ByteArray.empty,.int .i64 60]) (by simp [results,Tryz.results130,go_sem]; rfl) rfl ⟨rfl,?_⟩
    exact below_drew (below_twoC w _ _)
  ·obtain ⟨k,rfl⟩ : ∃ k:Nat,n=k:=⟨n.toNat,by omega⟩
   have ht:rtk T a 0 (k:Int)=(a+k,0,T.extract a (a+k)):=by rw [rtk,if_neg (by simp),if_neg hn]; simp
   rw [ht]
   have hd:(T.size:Int) - (a:Int)=((T.size - a:Nat):Int):=by omega
   have h0 : ¬ (k:Int)<0:=by omega
   have h1 : ¬ ((T.size - a:Nat):Int)<(k:Int):=by omega
   obtain ⟨b,hb⟩ : ∃ b,b=a+k:=⟨_,rfl⟩
   have e1:(a:Int)+(k:Int)=(b:Int):=by omega
   have e2:(a:Int)≤(b:Int):=by omega
   have e3:(b:Int)≤(T.size:Int):=by omega
   rw [← hb]
   clear ht hn hb
   generalize T.size - a=q at *
   go_enter Tryz.func130,Tryz.ntmps130
   go_wp2
   refine bodyPost_ret (v := .tuple #[rv T b 0,.string (T.extract a b),.int .i64 0]) (by simp [results,Tryz.results130,go_sem]) rfl ⟨rfl,?_⟩
   exact below_twoC w _ _
 ·have ht:rtk T a e n=(a,e,ByteArray.empty):=by rw [rtk,if_pos he]
  rw [ht]
  have hz : ¬ (e:Int)=0:=by omega
  go_enter Tryz.func130,Tryz.ntmps130
  go_wp2
  go_region
  go_wp2
  refine bodyPost_ret (v := .tuple #[rv T a e,.string ByteArray.empty,.int .i64 e]) (by simp [results,Tryz.results130,go_sem]; rfl) rfl ⟨rfl,?_⟩
  exact below_drew (below_twoC w _ _)
def rnb (T:ByteArray) (a e:Nat):Nat×Nat×Nat :=
 if e≠0 then (a,e,0) else (if (scan (T.data.toList.drop a) 0 0).2.1=0 then a+(scan (T.data.toList.drop a) 0 0).2.2 else a,(scan (T.data.toList.drop a) 0 0).2.1,(scan (T.data.toList.drop a) 0 0).1)
theorem rnb_of {T:ByteArray} {a n k:Nat} (h:scan (T.data.toList.drop a) 0 0=(n,0,k)):rnb T a 0=(a+k,0,n):=by
 simp [rnb,h]
theorem rnb_err {T:ByteArray} {a n e k:Nat} (h:scan (T.data.toList.drop a) 0 0=(n,e,k)) (he:e≠0):rnb T a 0=(a,e,n):=by
 simp [rnb,h,he]
theorem mul7 (n b k o:Nat) (ho:o=128^k) (hn:n<128^k) (hk:k≤9) (h:k=9→b≤1) :
  ∃ x m,IntKind.u64.wrap ((o:Int) * ((b:Int) % 128))=((x:Nat):Int)∧IntKind.u64.wrap ((n:Int)+(x:Int))=((m:Nat):Int)∧m=n+b % 128 * 128^k∧x<18446744073709551616∧m<18446744073709551616:=by
 obtain ⟨_,h2⟩:=or7 n b k hn hk h
 subst ho
 have e:((128^k:Nat):Int) * ((b:Int) % 128)=((b % 128 * 128^k:Nat):Int):=by
  rw [Int.mul_comm,Int.natCast_mul]; rfl
 refine ⟨b % 128 * 128^k,n+b % 128 * 128^k,?_,?_,rfl,by omega,h2⟩
 ·rw [e,IntKind.wrap_u64]; omega
 ·rw [IntKind.wrap_u64]; omega
theorem pow7 (k:Nat) (hk:k<9) (o:Nat) (ho:o=128^k):IntKind.u64.wrap ((o:Int) * 128)=((o * 128:Nat):Int)∧o * 128=128^(k+1):=by
 subst ho
 have hp:128^(k+1)≤128^9:=pow_le9 (by omega)
 have e9:(128:Nat)^9=9223372036854775808:=by decide
 rw [Nat.pow_succ] at hp
 refine ⟨?_,(Nat.pow_succ ..).symm⟩
 rw [IntKind.wrap_u64]; omega
set_option maxRecDepth 100000 in
set_option maxHeartbeats 2000000 in
theorem refrnum_any (w:World) (T:ByteArray) (a e:Nat) (ha:a≤T.size) (hT:T.size≤9223372036854775000) :
  Calls Tryz.prog 128 #[rv T a e] w fun x w'=>x = .returned (.tuple #[rv T (rnb T a e).1 (rnb T a e).2.1,.int .u64 ((rnb T a e).2.2:Int),.int .i64 ((rnb T a e).2.1:Int)])∧Below w.heap.size w w':=by
 by_cases he:e=0
 ·subst he
  go_enter Tryz.func128,Tryz.ntmps128
  go_wp2
  go_loopg [5,6,7] 10 (fun g x o i wr=>(w.alloc (.cells #[.string T,.int .i64 (a:Int),.int .i64 0] 166)).alloc (.cells #[.string ByteArray.empty,.int .i64 0,.int .i64 0] 166)=wr ∧
   ∃ (k n p:Nat),a+k≤T.size∧k≤9∧10 - k=g∧x = .int .u64 (n:Int)∧o = .int .u64 (p:Int)∧i = .int .i64 k∧Hid (p=128^k∧n<128^k∧scan (T.data.toList.drop (a+k)) k n=scan (T.data.toList.drop a) 0 0))
  case atStart =>
   go_light
   exact ⟨rfl,0,0,1,by omega,by omega,rfl,rfl,rfl,rfl,rfl,by decide,rfl⟩
  case round =>
   obtain ⟨rfl,k,n,p,hk,h9,rfl,rfl,rfl,rfl,HS⟩:=hrel
   obtain ⟨j,hj⟩ : ∃ j,j=a+k:=⟨_,rfl⟩
   have ej:(a:Int)+(k:Int)=(j:Int):=by omega
   obtain ⟨hp,hn,hsc⟩:=HS.out
   rw [← hj] at hsc hk
   have HJ:=hideC hj
   clear HS hj
   by_cases hlt:j<T.size
   ·have hz : ¬ (T.size:Int)≤(j:Int):=by omega
    have hz2:(j:Int)<(T.size:Int):=by omega
    obtain ⟨b,hb⟩ : ∃ b,T[j].toNat=b:=⟨_,rfl⟩
    have hb8:b<256:=by rw [← hb]; exact T[j].toNat_lt
    rw [drop_at T j hlt,scan,hb] at hsc
    by_cases hi:k=9∧1<b
    ·obtain ⟨rfl,hi⟩:=hi
     have ej9:(a:Int)+9=(j:Int):=ej
     clear ej
     rw [if_pos ⟨rfl,hi⟩] at hsc
     have HT:=hideC (rnb_err hsc.symm (by decide))
     have hi':(1:Int)<(b:Int):=by omega
     clear hsc hn hp
     go_wp2
     go_region
     go_wp2
     refine bodyPost_ret (v := .tuple #[rv T a 61,.int .u64 0,.int .i64 61]) (by simp [results,Tryz.results128,go_sem]) rfl ?_
     rw [HT.out]
     exact ⟨rfl,below_drew (below_twoC w _ _)⟩
    ·obtain ⟨x,m,ex,em,hm,hx,hmlt⟩:=mul7 n b k p hp hn h9 (by omega)
     rw [if_neg hi] at hsc
     by_cases hl:b<128
     ·rw [if_pos hl,← show b % 128=b from Nat.mod_eq_of_lt hl,← hm,show b % 128=b from Nat.mod_eq_of_lt hl] at hsc
      have hl':(b:Int)<128:=by omega
      by_cases h0:b=0∧0<k
      ·rw [if_pos h0] at hsc
       have HT:=hideC (rnb_err hsc.symm (by decide))
       obtain ⟨rfl,h0⟩:=h0
       have h0':(0:Int)<(k:Int):=by omega
       clear hsc hn hm hp ex em hx hmlt
       by_cases hk9:k=9
       ·subst hk9
        have ej9:(a:Int)+9=(j:Int):=ej
        clear ej
        go_wp2
        go_region
        go_wp2
        refine bodyPost_ret (v := .tuple #[rv T a 61,.int .u64 0,.int .i64 61]) (by simp [results,Tryz.results128,go_sem]) rfl ?_
        rw [HT.out]
        exact ⟨rfl,below_drew (below_twoC w _ _)⟩
       ·have hq : ¬ (k:Int)=9:=by omega
        go_wp2
        go_region
        go_wp2
        refine bodyPost_ret (v := .tuple #[rv T a 61,.int .u64 0,.int .i64 61]) (by simp [results,Tryz.results128,go_sem]) rfl ?_
        rw [HT.out]
        exact ⟨rfl,below_drew (below_twoC w _ _)⟩
      ·rw [if_neg h0] at hsc
       have HT:Hid (rnb T a 0=(j+1,0,m)):=by show _=_; rw [rnb_of hsc.symm,HJ.out]; rfl
       clear hsc hn hm hp
       by_cases hk9:k=9
       ·subst hk9
        have ej9:(a:Int)+9=(j:Int):=ej
        clear ej
        have hb1 : ¬ (1:Int)<(b:Int):=by omega
        have hb0 : ¬ (b:Int)=0:=by omega
        go_wp2
        refine bodyPost_ret (v := .tuple #[rv T (j+1) 0,.int .u64 (m:Int),.int .i64 0]) (by simp [results,Tryz.results128,go_sem]) rfl ?_
        rw [HT.out]
        exact ⟨rfl,below_twoC w _ _⟩
       ·have hq : ¬ (k:Int)=9:=by omega
        by_cases hk0:k=0
        ·subst hk0
         obtain rfl:j=a:=by have:=HJ.out; omega
         clear ej
         go_wp2
         refine bodyPost_ret (v := .tuple #[rv T (j+1) 0,.int .u64 (m:Int),.int .i64 0]) (by simp [results,Tryz.results128,go_sem]) rfl ?_
         rw [HT.out]
         exact ⟨rfl,below_twoC w _ _⟩
        ·have hk0':(0:Int)<(k:Int):=by omega
         have hb0 : ¬ (b:Int)=0:=by omega
         go_wp2
         refine bodyPost_ret (v := .tuple #[rv T (j+1) 0,.int .u64 (m:Int),.int .i64 0]) (by simp [results,Tryz.results128,go_sem]) rfl ?_
         rw [HT.out]
         exact ⟨rfl,below_twoC w _ _⟩
     ·have hq : ¬ (k:Int)=9:=by omega
      have hl' : ¬ (b:Int)<128:=by omega
      have hb0 : ¬ (b:Int)=0:=by omega
      obtain ⟨ep,hpp⟩:=pow7 k (by omega) p hp
      have HS:Hid (p * 128=128^(k+1)∧m<128^(k+1)∧scan (T.data.toList.drop (a+(k+1))) (k+1) m=scan (T.data.toList.drop a) 0 0):=by
       rw [if_neg hl,← hm] at hsc
       refine ⟨hpp,?_,by have:=HJ.out; rw [show a+(k+1)=j+1 by omega]; exact hsc⟩
       rw [hm,Nat.pow_succ]
       have:b % 128 * 128^k≤127 * 128^k:=Nat.mul_le_mul_right _ (by omega)
       omega
      clear hsc hn hm hp hpp
      by_cases hk0:k=0
      ·subst hk0
       obtain rfl:j=a:=by have:=HJ.out; omega
       clear ej
       go_wp2
       go_roundg (10 - (0+1))
       case rel =>
        go_light
        exact ⟨rfl,0+1,m,p * 128,by have:=HJ.out; omega,by omega,rfl,rfl,rfl,by go_num,HS.out⟩
       case measure=>go_light; omega
      ·have hk0':(0:Int)<(k:Int):=by omega
       go_wp2
       go_roundg (10 - (k+1))
       case rel =>
        go_light
        exact ⟨rfl,k+1,m,p * 128,by have:=HJ.out; omega,by omega,rfl,rfl,rfl,by go_num,HS.out⟩
       case measure=>go_light; omega
   ·obtain rfl:j=T.size:=by omega
    rw [List.drop_eq_nil_of_le (by simp),scan] at hsc
    have HT:=hideC (rnb_err hsc.symm (by decide))
    clear hsc hn hp
    go_wp2
    go_region
    go_wp2
    refine bodyPost_ret (v := .tuple #[rv T a 60,.int .u64 0,.int .i64 60]) (by simp [results,Tryz.results128,go_sem]) rfl ?_
    rw [HT.out]
    exact ⟨rfl,below_drew (below_twoC w _ _)⟩
 ·have ht:rnb T a e=(a,e,0):=by rw [rnb,if_pos he]
  rw [ht]
  have hz : ¬ (e:Int)=0:=by omega
  go_enter Tryz.func128,Tryz.ntmps128
  go_wp2
  go_region
  go_wp2
  refine bodyPost_ret (v := .tuple #[rv T a e,.int .u64 0,.int .i64 e]) (by simp [results,Tryz.results128,go_sem]) rfl ⟨rfl,?_⟩
  exact below_drew (below_twoC w _ _)
end Go.Proofs.YtipcenbndhnnhaaGreatDoor
namespace Go.Proofs.YtipcenbndhnnhaaGreatDoor
open Cv Pl
open Go.RowKit
attribute [local go_sem ↓] Go.wp_at_zero Go.wp_at_succ
def OkN (size:Nat) (S:List Nat) (j:Nat):Prop := ∀ i,i<j→S.getD i 0<size∧(0<i→S.getD (i - 1) 0<S.getD i 0)
theorem okN_next {size j:Nat} {S:List Nat} (h:OkN size S j) (h1:S.getD j 0<size) (h2:0<j→S.getD (j - 1) 0<S.getD j 0):OkN size S (j+1):=by
 intro i hi
 by_cases e:i=j
 ·subst e; exact ⟨h1,h2⟩
 ·exact h i (by omega)
theorem errS_okN {size:Nat} {S:List Nat} (h:errS size S=0):OkN size S S.length:=by
 obtain ⟨h1,h2,h3,h4⟩:=errS_ok h
 intro i hi
 have hc:=chain_drop h4 i hi
 refine ⟨hc.1,fun h0=>hc.2.2 (i - 1) (by omega)⟩
theorem okN_errS {size:Nat} {S:List Nat} (hn:size≤2^40) (h0:0<S.length) (h:OkN size S S.length):errS size S=0:=by
 refine chain_inc (chain_of S 0 size (fun i hi => ?_) (fun _=>Nat.zero_le _) (fun hl=>(h _ (by omega)).1) (Nat.zero_le _)) (fun e=>by rw [e] at h0; exact absurd h0 (by decide)) hn
 have:=(h (i+1) hi).2 (by omega)
 simpa using this
theorem cnt_set {kd k:Int} {old size:Nat} {S:List Nat} (hk:1≤k∧k≤32∧size≤2^40) (hkd:kd=1∨kd=2):(cnt kd k old size S).isSome=decide (old=0∧(kd=1→S.length=1)∧errS size S=0):=by
 rcases hkd with rfl | rfl
 ·rw [cnt,if_pos hk,if_pos rfl]
  by_cases h:old=0∧S.length=1∧errS size S=0
  ·rw [if_pos h,decide_eq_true ⟨h.1,fun _=>h.2.1,h.2.2⟩]; rfl
  ·rw [if_neg h,decide_eq_false (fun g=>h ⟨g.1,g.2.1 rfl,g.2.2⟩)]; rfl
 ·rw [cnt_batch hk]
  by_cases h:old=0∧errS size S=0
  ·rw [if_pos h,decide_eq_true ⟨h.1,fun e=>absurd e (by decide),h.2⟩]; rfl
  ·rw [if_neg h,decide_eq_false (fun g=>h ⟨g.1,g.2.2⟩)]; rfl
theorem errS_nil {size:Nat} {S:List Nat} (h:errS size S=0):0<S.length:=(errS_ok h).2.1.1
section
variable (w:World) (kd k:Int) (old size:Nat) (sa:Option Addr) (sb so sc:Nat) (S:List Nat) (dv:Value)
set_option maxRecDepth 100000 in
set_option maxHeartbeats 4000000 in
theorem rnumbers_any (rs:RdU w sa sb so S.length S) (hS:S.length≤17592186044416) :
  Calls Tryz.prog 176 #[pv6 kd k old size (.slice sa S.length sc) dv] w fun e w'=>e = .returned (.bool (cnt kd k old size S).isSome)∧Below w.heap.size w w':=by
 obtain ⟨W0,hW,h6,hb,hz⟩:=box6 w (.int .i64 kd) (.int .i64 k) (.int .u64 (old:Int)) (.int .u64 (size:Int)) (.slice sa S.length sc) dv
 have HX:Hid (∀ W,Below W0.heap.size W0 W→Six W w.heap.size (.int .i64 kd) (.int .i64 k) (.int .u64 (old:Int)) (.int .u64 (size:Int)) (.slice sa S.length sc) dv∧RdU W sa sb so S.length S∧Below w.heap.size w W):=fun W hw=>⟨h6.next hw,rs.next (bnext hb hw),bnext hb hw⟩
 obtain ⟨e0,e1,e2,e3,e4,e5⟩:=h6.cells
 have HB:=hideC hb
 have hS1:(S.length:Int)≤17592186044416:=by omega
 clear h6 hb hz rs
 show Calls Tryz.prog 176 #[pv6 kd k old size (.slice sa S.length sc) dv] w _
 by_cases hk0:1≤kd∧kd≤3∧1≤k∧k≤32∧size≤1099511627776
 rotate_left
 ·have hno:(cnt kd k old size S).isSome=false:=by
   by_cases h1:kd=1∨kd=2∨kd=3
   ·rw [cnt_off (by have : (2:Nat) ^ 40 = 1099511627776 := by decide
                    omega)]; rfl
   ·rw [cnt_other (by omega) (by omega) (by omega)]; rfl
  rw [hno]
  clear hno HX
  have hc:kd<1∨(¬ kd<1∧kd > 3)∨(¬ kd<1 ∧ ¬ kd > 3∧k<1)∨(¬ kd<1 ∧ ¬ kd > 3 ∧ ¬ k<1∧k > 32)∨(¬ kd<1 ∧ ¬ kd > 3 ∧ ¬ k<1 ∧ ¬ k > 32∧(size:Int) > 1099511627776):=by omega
  clear hk0
  rcases hc with g1 | ⟨g1,g2⟩ | ⟨g1,g2,g3⟩ | ⟨g1,g2,g3,g4⟩ | ⟨g1,g2,g3,g4,g5⟩ <;>
  ·go_enter Tryz.func176,Tryz.ntmps176
   go_upto_region 1 with (fail)
   try rw [hW]
   clear hW
   go_wp2
   go_ret
   exact ⟨rfl,HB.out⟩
 have g1 : ¬ kd<1:=by omega
 have g2 : ¬ kd > 3:=by omega
 have g3 : ¬ k<1:=by omega
 have g4 : ¬ k > 32:=by omega
 have g5 : ¬ (size:Int) > 1099511627776:=by omega
 have hk:1≤k∧k≤32∧size≤2^40:=⟨hk0.2.2.1,hk0.2.2.2.1,hk0.2.2.2.2⟩
 by_cases h3:kd=3
 ·subst h3
  by_cases h4:S.length=0
  ·have hS0:S=[]:=List.eq_nil_of_length_eq_zero h4
   have h4':((S.length:Int) == 0)=true:=beq_iff_eq.2 (by omega)
   by_cases h5:old≤size
   ·rw [cnt_kin hk,if_pos ⟨h5,hS0⟩]
    have h5':(old:Int)≤(size:Int):=by omega
    clear hk hk0 hS0 h4 h5 HX
    generalize S.length=ms at *
    go_enter Tryz.func176,Tryz.ntmps176
    go_upto_region 1 with (fail)
    try rw [hW]
    clear hW
    go_wp2
    go_ret
    exact ⟨rfl,HB.out⟩
   ·rw [cnt_kin hk,if_neg (fun h=>h5 h.1)]
    have h5' : ¬ (old:Int)≤(size:Int):=by omega
    clear hk hk0 hS0 h4 h5 HX
    generalize S.length=ms at *
    go_enter Tryz.func176,Tryz.ntmps176
    go_upto_region 1 with (fail)
    try rw [hW]
    clear hW
    go_wp2
    go_ret
    exact ⟨rfl,HB.out⟩
  ·rw [cnt_kin hk,if_neg (fun h=>h4 (by rw [h.2]; rfl))]
   have h4':((S.length:Int) == 0)=false:=beq_eq_false_iff_ne.2 (by omega)
   clear hk hk0 h4 HX
   generalize S.length=ms at *
   go_enter Tryz.func176,Tryz.ntmps176
   go_upto_region 1 with (fail)
   try rw [hW]
   clear hW
   go_wp2
   go_ret
   exact ⟨rfl,HB.out⟩
 have hkd:kd=1∨kd=2:=by omega
 have f3:(kd == 3)=false:=beq_eq_false_iff_ne.2 h3
 rw [cnt_set hk hkd]
 by_cases h4:old=0
 rotate_left
 ·rw [decide_eq_false (fun h=>h4 h.1)]
  have h4':((old:Int) != 0)=true:=bne_iff_ne.2 (by omega)
  clear hk hk0 h4 HX hkd h3
  go_enter Tryz.func176,Tryz.ntmps176
  go_upto_region 1 with (fail)
  try rw [hW]
  clear hW
  go_wp2
  go_ret
  exact ⟨rfl,HB.out⟩
 subst h4
 have hz0:((0:Nat):Int)=0:=rfl
 rw [hz0] at hW e2
 clear hz0
 by_cases h5:S.length=0
 ·rw [decide_eq_false (fun h=>by have:=errS_nil h.2.2; omega)]
  have h5':((S.length:Int) == 0)=true:=beq_iff_eq.2 (by omega)
  clear hk hk0 h5 HX hkd h3
  generalize S.length=ms at *
  go_enter Tryz.func176,Tryz.ntmps176
  go_upto_region 1 with (fail)
  try rw [hW]
  clear hW
  go_wp2
  go_ret
  exact ⟨rfl,HB.out⟩
 have h5':((S.length:Int) == 0)=false:=beq_eq_false_iff_ne.2 (by omega)
 by_cases h6:kd=1∧S.length≠1
 ·obtain ⟨rfl,h6⟩:=h6
  rw [decide_eq_false (fun h=>h6 (h.2.1 rfl))]
  have h6':((S.length:Int) != 1)=true:=bne_iff_ne.2 (by omega)
  clear hk hk0 h5 HX hkd h3 h6
  generalize S.length=ms at *
  go_enter Tryz.func176,Tryz.ntmps176
  go_upto_region 1 with (fail)
  try rw [hW]
  clear hW
  go_wp2
  go_ret
  exact ⟨rfl,HB.out⟩
 have hq:kd=1→S.length=1:=fun h=>by
  by_cases h7:S.length=1
  ·exact h7
  ·exact absurd ⟨h,h7⟩ h6
 have HE:Hid ((OkN size S S.length→decide (0=0∧(kd=1→S.length=1)∧errS size S=0)=true)∧(¬ OkN size S S.length→decide (0=0∧(kd=1→S.length=1)∧errS size S=0)=false)):=⟨fun h=>decide_eq_true ⟨rfl,hq,okN_errS hk.2.2 (by omega) h⟩,fun h=>decide_eq_false (fun g=>h (errS_okN g.2.2))⟩
 generalize decide (0=0∧(kd=1→S.length=1)∧errS size S=0)=ans at *
 have hc:((kd == 1)=true∧((S.length:Int) != 1)=false)∨(kd == 1)=false:=by
  rcases hkd with h | h
  ·exact .inl ⟨beq_iff_eq.2 h,bne_eq_false_iff_eq.2 (by have:=hq h; omega)⟩
  ·exact .inr (beq_eq_false_iff_ne.2 (by omega))
 clear hk hk0 h5 hkd h3 h6 hq
 rcases hc with ⟨hc1,hc2⟩ | hc1 <;>
 ·go_enter Tryz.func176,Tryz.ntmps176
  go_upto_region 1 with (fail)
  try rw [hW]
  clear hW
  go_wp2
  clear e0 e1 e2 e3 e4 e5
  go_loopg [3] S.length (fun gk i wr => ∃ j:Nat,j≤S.length∧gk=S.length - j∧i = .int .i64 (j:Int)∧Hid (OkN size S j)∧Hid (Below W0.heap.size W0 wr))
  case atStart =>
   go_light
   exact ⟨0,Nat.zero_le _,rfl,rfl,(show OkN size S 0 from fun i hi=>absurd hi (by omega)),Below.refl _ _⟩
  case round =>
   obtain ⟨j,hj,rfl,rfl,HK,HI⟩:=hrel
   obtain ⟨x6,v1,hbw⟩:=HX.out wr HI.out
   obtain ⟨_,_,_,e3,e4,_⟩:=x6.cells
   have hj0:(0:Int)≤(j:Int):=Int.natCast_nonneg _
   have HB2:=hideC hbw
   clear hbw x6
   by_cases hlt:j<S.length
   ·have hlt':(j:Int)<(S.length:Int):=by omega
    obtain rfl:=v1.ptr (by omega)
    have c1:=v1.at (j:=j) hlt
    obtain ⟨x,hx⟩ : ∃ x,S.getD j 0=x:=⟨_,rfl⟩
    rw [hx] at c1
    by_cases b1:x<size
    rotate_left
    ·have b1p:(size:Int)≤(x:Int):=by omega
     have HN:Hid (ans=false):=HE.out.2 (fun h=>b1 (hx ▸ (h j hlt).1))
     clear b1 hx v1
     go_wp2
     have b1':decide ((size:Int)≤(x:Int))=true:=decide_eq_true (by omega)
     have b1n:decide (size≤x)=true:=decide_eq_true (by omega)
     go_quiet (fail)
     go_wp2
     go_ret
     exact ⟨by rw [HN.out]; try rfl,below_drewN HB2.out _⟩
    have b1p:(x:Int)<(size:Int):=by omega
    by_cases j1:j=0
    ·have j2p:(j:Int)≤0:=by omega
     have HK2:Hid (OkN size S (j+1)):=okN_next HK.out (hx ▸ b1) (fun h=>absurd h (by omega))
     clear b1 hx v1 HK j1
     go_wp2
     have b1':decide ((size:Int)≤(x:Int))=false:=decide_eq_false (by omega)
     have b1n:decide (size≤x)=false:=decide_eq_false (by omega)
     have j2:decide ((0:Int)<(j:Int))=false:=decide_eq_false (by omega)
     have j2n:decide (0<j)=false:=decide_eq_false (by omega)
     go_quiet (fail)
     go_wp2
     go_roundg (S.length - (j+1))
     case rel =>
      go_light
      exact ⟨j+1,hlt,rfl,by go_num,HK2,below_drewN HI.out _⟩
     case measure=>go_light; omega
    ·obtain ⟨t,rfl⟩ : ∃ t,j=t+1:=⟨j - 1,by omega⟩
     have c2:=v1.at (j:=t) (by omega)
     obtain ⟨y,hy⟩ : ∃ y,S.getD t 0=y:=⟨_,rfl⟩
     rw [hy] at c2
     have j2p:(0:Int)<((t+1:Nat):Int):=by omega
     have et:((t+1:Nat):Int) - 1=(t:Int):=by omega
     have et1:(t:Int)<(S.length:Int):=by omega
     have et0:(0:Int)≤(t:Int):=Int.natCast_nonneg _
     have ht1:t≤17592186044416:=by omega
     by_cases b2:y<x
     ·have b2p:(y:Int)<(x:Int):=by omega
      have HK2:Hid (OkN size S (t+1+1)):=okN_next HK.out (hx ▸ b1) (fun _=>by rw [Nat.add_sub_cancel,hx,hy]; exact b2)
      clear b1 hx hy v1 HK b2
      go_wp2
      have b1':decide ((size:Int)≤(x:Int))=false:=decide_eq_false (by omega)
      have b1n:decide (size≤x)=false:=decide_eq_false (by omega)
      have j2:decide ((0:Int)<((t+1:Nat):Int))=true:=decide_eq_true (by omega)
      have j2n:decide (0<t+1)=true:=decide_eq_true (by omega)
      have j2m:decide ((0:Int)<(t:Int)+1)=true:=decide_eq_true (by omega)
      have b2':decide ((x:Int)≤(y:Int))=false:=decide_eq_false (by omega)
      have b2n:decide (x≤y)=false:=decide_eq_false (by omega)
      go_quiet (fail)
      go_wp2
      go_roundg (S.length - (t+1+1))
      case rel =>
       go_light
       exact ⟨t+1+1,hlt,rfl,by go_num,HK2,below_drewN HI.out _⟩
      case measure=>go_light; omega
     ·have b2p:(x:Int)≤(y:Int):=by omega
      have HN:Hid (ans=false):=HE.out.2 (fun h=>b2 (by have:=(h (t+1) hlt).2 (by omega); rwa [Nat.add_sub_cancel,hx,hy] at this))
      clear b1 hx hy v1 HK b2
      go_wp2
      have b1':decide ((size:Int)≤(x:Int))=false:=decide_eq_false (by omega)
      have b1n:decide (size≤x)=false:=decide_eq_false (by omega)
      have j2:decide ((0:Int)<((t+1:Nat):Int))=true:=decide_eq_true (by omega)
      have j2n:decide (0<t+1)=true:=decide_eq_true (by omega)
      have j2m:decide ((0:Int)<(t:Int)+1)=true:=decide_eq_true (by omega)
      have b2':decide ((x:Int)≤(y:Int))=true:=decide_eq_true (by omega)
      have b2n:decide (x≤y)=true:=decide_eq_true (by omega)
      go_quiet (fail)
      go_wp2
      go_ret
      exact ⟨by rw [HN.out]; try rfl,below_drewN HB2.out _⟩
   ·obtain hje:j=S.length:=by omega
    have hlt' : ¬ (j:Int)<(S.length:Int):=by omega
    have HN:Hid (ans=true):=HE.out.1 (by rw [← hje]; exact HK.out)
    clear hje v1 HK
    go_wp2
    go_ret
    exact ⟨by rw [HN.out]; try rfl,HB2.out⟩
end
end Go.Proofs.YtipcenbndhnnhaaGreatDoor
