/- Own work. -/
import Derived.BigRegion
import Derived.Lib.BufferMore
import Derived.Test.YtoblgjledefdbaaGreatDoorProg
import Derived.Below
import Derived.WalkKit
import Derived.WalkSpells
import Derived.KernelRfl
import Derived.Deep.RegionHeld3
import Derived.Deep.RegionWith
import Derived.BigQuiet
import Derived.Test.YtoblgjledefdbaaGreatDoorQa39
import Derived.Test.YtoblgjledefdbaaGreatDoorQa41
namespace Go.Proofs.YtoblgjledefdbaaGreatDoor
open Go.RowKit
attribute [local go_sem ↓] Go.wp_at_zero Go.wp_at_succ
structure Tr (w:World):Prop where
 rr:w.rangeAt 1 0 (cW RS)
 iv:w.rangeAt 0 0 (cW IV)
theorem Tr.next {w W:World} (h:Tr w) (hb:Below w.heap.size w W):Tr W :=
 ⟨range_below hb (range_lt h.rr (cW_ne (by rw [RS_len]; decide))) h.rr,range_below hb (range_lt h.iv (cW_ne (by decide))) h.iv⟩
theorem ref_one (w:World) (ht:Tr w) (t:ByteArray) (hs:t.size<1152921504606846976) (r:ByteArray) (hr:shaS RS (tB t)=r) :
  Calls Tryz.prog 186 #[.slice (some ⟨w.heap.size,0,none⟩) 1 1] (w.alloc (.cells #[.string t] 9)) fun e w'=>e = .returned (.string r)∧Below w.heap.size w w':=by
 subst hr
 have e:flat [t]=tB t:=by simp [flat]
 refine (refOf_any _ (some ⟨w.heap.size,0,none⟩) w.heap.size 0 1 1 [t] rfl (fun _=>rfl) (range_new w [.string t] 9) (by decide) RS RS_len (World.rangeAt_alloc ht.rr _) (World.rangeAt_alloc ht.iv _) (by rw [e,tB_len]; exact hs)).mono fun e' w' ⟨he,hb'⟩=>⟨?_,?_⟩
 ·rw [he,e]
 ·exact ((Below.refl _ _).alloc (Nat.le_refl _) _).trans (hb'.mono (by simp))
set_option maxRecDepth 100000 in
theorem refof_any (w:World) (ht:Tr w) (k:Int) (t:ByteArray) (hs:t.size<1152921504606846976) (r:ByteArray) (hr:dg (clk k) t=r) :
  Calls Tryz.prog 108 #[.int .i64 k,.string t] w fun e w'=>e = .returned (.string r)∧Below w.heap.size w w':=by
 subst hr
 have HS:=ref_one w ht t hs _ rfl
 unfold dg
 have hz:=shaS_size RS (tB t)
 generalize shaS RS (tB t)=z at *
 clear ht hs
 unfold clk
 go_enter Tryz.func108,Tryz.ntmps108
 by_cases h1:k<1
 ·rw [if_pos h1]
  go_wp2_with (go_at_call 186; with_reducible refine HS.mono ?_; rintro e w1 ⟨rfl,hb1⟩)
  go_ret
  exact ⟨rfl,hb1⟩
 ·by_cases h2:32<k
  ·rw [if_neg h1,if_pos h2]
   go_wp2_with (go_at_call 186; with_reducible refine HS.mono ?_; rintro e w1 ⟨rfl,hb1⟩)
   go_ret
   exact ⟨rfl,hb1⟩
  ·rw [if_neg h1,if_neg h2]
   obtain ⟨c,rfl⟩ : ∃ c:Nat,k=(c:Int):=⟨k.toNat,by omega⟩
   have h3:(0:Int)≤(c:Int):=by omega
   have h4:(c:Int)≤32:=by omega
   rw [Int.toNat_natCast]
   go_wp2_with (go_at_call 186; with_reducible refine HS.mono ?_; rintro e w1 ⟨rfl,hb1⟩)
   go_ret
   exact ⟨rfl,hb1⟩
theorem refcheck_any (w:World) (k:Int):Calls Tryz.prog 58 #[.int .i64 k] w fun e w'=>e = .returned (.int .i64 (chk k))∧w'=w:=by
 unfold chk
 go_enter Tryz.func58,Tryz.ntmps58
 by_cases h1:k<1
 ·rw [if_pos (.inl h1)]
  go_wp2
  go_ret
  simp
 ·by_cases h2:32<k
  ·rw [if_pos (.inr h2)]
   go_wp2
   go_ret
   simp
  ·rw [if_neg (by omega)]
   go_wp2
   go_ret
   simp
set_option maxRecDepth 100000 in
theorem reftext_any (w:World) (f:Int) (a b:ByteArray) (hs:a.size<2305843009213693952) (hs2:b.size<2305843009213693952) (r:ByteArray) (hr:(strB [f]++a)++b=r) :
  Calls Tryz.prog 187 #[.int .u8 f,.string a,.string b] w fun e w'=>e = .returned (.string r)∧Below w.heap.size w w':=by
 subst hr
 have cv:=conv_one w f
 have hz:=one_size f
 generalize strB [f]=z at *
 have hns : ¬ (9223372036854775807<1+a.size):=by omega
 have hns2 : ¬ (9223372036854775807<1+a.size+b.size):=by omega
 go_enter Tryz.func187,Tryz.ntmps187
 go_wp2
 go_ret
 exact ⟨rfl,bal (Below.refl _ _) _⟩
theorem app_nil (a:ByteArray):a++(⟨#[]⟩:ByteArray)=a:=by
 have:=ByteArray.append_empty (b:=a)
 exact this
set_option maxRecDepth 100000 in
theorem refleaft_any (w:World) (s:ByteArray) (hs:s.size<2305843009213693952) :
  Calls Tryz.prog 283 #[.string s] w fun e w'=>e = .returned (.string (leafT s))∧Below w.heap.size w w':=by
 have HT:=reftext_any w 0 s ⟨#[]⟩ hs (by decide) (leafT s) (by rw [app_nil]; rfl)
 generalize leafT s=r at *
 go_enter Tryz.func283,Tryz.ntmps283
 go_wp2_with (go_at_call 187; with_reducible refine HT.mono ?_; rintro e w1 ⟨rfl,hb1⟩)
 go_ret
 exact ⟨rfl,hb1⟩
set_option maxRecDepth 100000 in
theorem refnodet_any (w:World) (a b:ByteArray) (hs:a.size<2305843009213693952) (hs2:b.size<2305843009213693952) :
  Calls Tryz.prog 284 #[.string a,.string b] w fun e w'=>e = .returned (.string (nodeT a b))∧Below w.heap.size w w':=by
 have HT:=reftext_any w 1 a b hs hs2 (nodeT a b) rfl
 generalize nodeT a b=r at *
 go_enter Tryz.func284,Tryz.ntmps284
 go_wp2_with (go_at_call 187; with_reducible refine HT.mono ?_; rintro e w1 ⟨rfl,hb1⟩)
 go_ret
 exact ⟨rfl,hb1⟩
set_option maxRecDepth 100000 in
theorem refbagt_any (w:World) (a b:ByteArray) (hs:a.size<2305843009213693952) (hs2:b.size<2305843009213693952) (r:ByteArray) (hr:bagT a b=r) :
  Calls Tryz.prog 188 #[.string a,.string b] w fun e w'=>e = .returned (.string r)∧Below w.heap.size w w':=by
 have HT:=reftext_any w 2 a b hs hs2 r hr
 go_enter Tryz.func188,Tryz.ntmps188
 go_wp2_with (go_at_call 187; with_reducible refine HT.mono ?_; rintro e w1 ⟨rfl,hb1⟩)
 go_ret
 exact ⟨rfl,hb1⟩
set_option maxRecDepth 100000 in
theorem refleaf_any (w:World) (ht:Tr w) (k:Int) (s:ByteArray) (hs:s.size<140737488355328) (r:ByteArray) (hr:dg (clk k) (leafT s)=r) :
  Calls Tryz.prog 189 #[.int .i64 k,.string s] w fun e w'=>e = .returned (.string r)∧Below w.heap.size w w':=by
 have HL:=refleaft_any w s (by omega)
 have HO:Hid (∀ W,Below w.heap.size w W→Calls Tryz.prog 108 #[.int .i64 k,.string (leafT s)] W fun e w'=>e = .returned (.string r)∧Below W.heap.size W w'):=fun W hb=>refof_any W (ht.next hb) k _ (by rw [leafT_size]; omega) r hr
 clear hr ht hs
 generalize leafT s=t at *
 go_enter Tryz.func189,Tryz.ntmps189
 go_wp2_with (first
  | (go_at_call 283; with_reducible refine HL.mono ?_; rintro e w1 ⟨rfl,hb1⟩)
  | (go_at_call 108; with_reducible refine (HO.out _ hb1).mono ?_; rintro e w2 ⟨rfl,hb2⟩))
 go_ret
 exact ⟨rfl,bnext hb1 hb2⟩
set_option maxRecDepth 100000 in
theorem refnode_any (w:World) (ht:Tr w) (k:Int) (a b:ByteArray) (hs:a.size<140737488355328) (hs2:b.size<140737488355328) (r:ByteArray) (hr:dg (clk k) (nodeT a b)=r) :
  Calls Tryz.prog 190 #[.int .i64 k,.string a,.string b] w fun e w'=>e = .returned (.string r)∧Below w.heap.size w w':=by
 have HL:=refnodet_any w a b (by omega) (by omega)
 have HO:Hid (∀ W,Below w.heap.size w W→Calls Tryz.prog 108 #[.int .i64 k,.string (nodeT a b)] W fun e w'=>e = .returned (.string r)∧Below W.heap.size W w'):=fun W hb=>refof_any W (ht.next hb) k _ (by rw [nodeT_size]; omega) r hr
 clear hr ht hs hs2
 generalize nodeT a b=t at *
 go_enter Tryz.func190,Tryz.ntmps190
 go_wp2_with (first
  | (go_at_call 284; with_reducible refine HL.mono ?_; rintro e w1 ⟨rfl,hb1⟩)
  | (go_at_call 108; with_reducible refine (HO.out _ hb1).mono ?_; rintro e w2 ⟨rfl,hb2⟩))
 go_ret
 exact ⟨rfl,bnext hb1 hb2⟩
theorem strB_cons (x:Int) (l:List Int):strB [x]++strB l=strB (x::l):=by
 apply ByteArray.ext
 rw [ByteArray.data_append]
 apply Array.toList_inj.1
 rw [Array.toList_append,strB_list,strB_list,strB_list]
 rfl
def tlL (n k:Nat):List Int:=(nbL n 8).drop (8 - k)
theorem tlL_succ (n k:Nat) (h:k<8):((n / 256^k % 256:Nat):Int)::tlL n k=tlL n (k+1):=by
 unfold tlL
 have hl:8 - (k+1)<(nbL n 8).length:=by rw [nbL_len]; omega
 rw [List.drop_eq_getElem_cons hl,show 8 - (k+1)+1=8 - k by omega]
 congr 1
 have:(nbL n 8)[8 - (k+1)]=((n / 256^(7 - (8 - (k+1))) % 256:Nat):Int):=by simp [nbL]
 rw [this,show 7 - (8 - (k+1))=k by omega]
theorem wrap_ur (x:Int) (h0:0≤x) (h1:x<18446744073709551616):IntKind.u64.wrap x=x:=by
 simp [IntKind.wrap,IntKind.signed,IntKind.bits]; omega
set_option maxRecDepth 100000 in
theorem refroott_any (w:World) (n:Nat) (hn:n<18446744073709551616) (d:ByteArray) (hs:d.size<2305843009213693952) (r:ByteArray) (hr:rootT n d=r) :
  Calls Tryz.prog 109 #[.int .u64 (n:Int),.string d] w fun e w'=>e = .returned (.string r)∧Below w.heap.size w w':=by
 have hB:=Below.refl w.heap.size w
 go_enter Tryz.func109,Tryz.ntmps109
 go_wp2
 go_loopg [0,5,6] 8 (fun g a s i wr => ∃ (k N:Nat) (z:ByteArray),k≤8∧g=8 - k∧a = .int .u64 (N:Int)∧s = .string z∧i = .int .i64 (k:Int)∧Hid (N=n / 256^k∧z=strB (tlL n k))∧z.size=k∧Below w.heap.size w wr)
 case atStart =>
  go_light
  exact ⟨0,n,⟨#[]⟩,Nat.zero_le _,rfl,rfl,rfl,rfl,⟨by simp,rfl⟩,rfl,hB⟩
 case round =>
  clear hB
  obtain ⟨k,N,z,hk,rfl,rfl,rfl,rfl,HE,hz,hb⟩:=hrel
  by_cases hlt:k<8
  ·have h1:(k:Int)<8:=by omega
   obtain ⟨y,hy⟩ : ∃ y,strB [(N:Int) % 256]=y:=⟨_,rfl⟩
   have cv:=fun W=>conv_one W ((N:Int) % 256)
   have zy:=one_size ((N:Int) % 256)
   rw [hy] at zy
   simp only [hy] at cv
   have HN:Hid ((N:Int) / 256=((n / 256^(k+1):Nat):Int)∧y++z=strB (tlL n (k+1))):=by
    have h:=HE.out
    refine ⟨?_,?_⟩
    ·rw [h.1,Nat.pow_succ,← Nat.div_div_eq_div_mul]; omega
    ·rw [← hy,h.2,strB_cons,← tlL_succ n k hlt,h.1]; congr 2
   have hns : ¬ (9223372036854775807<1+k):=by omega
   have ew:IntKind.u64.wrap ((N:Int) / 256)=(N:Int) / 256:=by
    have h:=HE.out.1
    have:N≤n:=by rw [h]; exact Nat.div_le_self _ _
    exact wrap_ur _ (by omega) (by omega)
   have hsz:(y++z).size=k+1:=by rw [ByteArray.size_append,zy,hz]; omega
   have HZ:=hide hsz
   clear hy HE hsz
   go_wp2
   go_roundg (8 - (k+1))
   case rel =>
    go_light
    exact ⟨k+1,n / 256^(k+1),y++z,by omega,rfl,by rw [← HN.out.1],rfl,by go_num,⟨rfl,HN.out.2⟩,HZ.out,bal hb _⟩
   case measure=>go_light; omega
  ·obtain rfl:k=8:=by omega
   have hzz : ¬ ((8:Int)<8):=by decide
   have HT:=fun W=>reftext_any W 3 z d (by omega) hs r (by
    rw [← hr,HE.out.2,rootT,strB_cons]; rfl)
   rw [show ((8:Nat):Int)=8 from rfl]
   clear HE hlt hk
   go_wp2_with (go_at_call 187; with_reducible refine (HT _).mono ?_; rintro e w1 ⟨rfl,hb1⟩)
   go_ret
   exact ⟨rfl,bnext hb hb1⟩
set_option maxRecDepth 100000 in
theorem refbagged_any (w:World) (ht:Tr w) (k:Int) (ao:Option Addr) (b off len cap:Nat) (ss:List ByteArray) (hr:RdS w ao b off len ss) (hsz : ∀ s∈ss,s.size≤140737488351232) (hmx:len≤8796093022208) (r:ByteArray) (hq:bagL (clk k) ss=r) :
  Calls Tryz.prog 110 #[.int .i64 k,.slice ao len cap] w fun e w'=>e = .returned (.string r)∧Below w.heap.size w w':=by
 by_cases h0:len=0
 ·subst h0
  have:ss=[]:=List.length_eq_zero_iff.1 hr.hl
  subst this
  subst hq
  go_enter Tryz.func110,Tryz.ntmps110
  go_wp2
  go_ret
  exact ⟨rfl,Below.refl _ _⟩
 ·have hlen:0<len:=by omega
  obtain rfl:=hr.ptr hlen
  obtain ⟨m,rfl⟩ : ∃ m,len=m+1:=⟨len - 1,by omega⟩
  have hc:=clk_le k
  have hne : ¬ ((m:Int)+1=0):=by omega
  have cm:=hr.at (k:=m) (by omega)
  have HL:Hid (bagL (clk k) (ss.drop m)=ss.getD m ByteArray.empty):=by
   have:=bagL_last (clk k) ss (by rw [hr.hl]; omega)
   rw [hr.hl] at this; exact this
  have HSZ:Hid (∀ d,d=bagL (clk k) ss→True):=fun _ _=>trivial
  have HM:Hid (∀ j,j<m+1→(ss.getD j ByteArray.empty).size≤140737488351232):=fun j hj=>hsz _ (getD_mem (by rw [hr.hl]; exact hj))
  have HD:Hid (∀ j,(bagL (clk k) (ss.drop j)).size≤140737488351232):=fun j=>bagL_size hc (by decide) _ (fun s hs=>hsz s (List.mem_of_mem_drop hs))
  have HN:Hid (∀ j,j<m→bagL (clk k) (ss.drop j)=dg (clk k) (bagT (ss.getD j ByteArray.empty) (bagL (clk k) (ss.drop (j+1))))):=fun j hj=>bagL_drop _ _ _ (by rw [hr.hl]; omega)
  have HT:Hid (Tr w):=ht
  have HR:Hid (RdS w (some ⟨b,off,none⟩) b off (m+1) ss):=hr
  have HQ:Hid (bagL (clk k) (ss.drop 0)=r):=hq
  obtain ⟨d0,hd0⟩ : ∃ d0,ss.getD m ByteArray.empty=d0:=⟨_,rfl⟩
  rw [hd0] at cm
  have HL2:Hid (bagL (clk k) (ss.drop m)=d0):=by rw [← hd0]; exact HL
  clear hd0 HL ht hr hq hsz HSZ h0 hlen
  go_enter Tryz.func110,Tryz.ntmps110
  go_wp2
  go_loopg [5,6] m (fun g x i wr => ∃ (j:Nat) (d:ByteArray),j=g∧x = .string d∧i = .int .i64 ((j:Int) - 1)∧j≤m∧Hid (bagL (clk k) (ss.drop j)=d)∧Below w.heap.size w wr)
  case atStart =>
   go_light
   exact ⟨m,d0,rfl,rfl,by go_num,Nat.le_refl _,HL2,Below.refl _ _⟩
  case round =>
   obtain ⟨j,d,hg,rfl,rfl,hj,HE,hb⟩:=hrel
   subst hg
   cases j with
   | zero =>
    have hz : ¬ ((0:Int) ≤ -1):=by decide
    rw [show ((0:Nat):Int) - 1 = -1 from rfl]
    have HF:Hid (d=r):=HE.out.symm.trans HQ.out
    clear HE HN HQ HM HD HR HT cm
    obtain rfl:=HF.out
    go_wp2
    go_ret
    exact ⟨rfl,hb⟩
   | succ j =>
    have e1:((j+1:Nat):Int) - 1=(j:Int):=by omega
    have hz:(0:Int)≤(j:Int):=by omega
    have hz2:(j:Int)<(m:Int)+1:=by omega
    have hjm:j<m:=by omega
    have cj:=(HR.out.next hb (Nat.le_refl _)).at (k:=j) (by omega)
    have z1:=HM.out j (by omega)
    have z2:=HD.out (j+1)
    have hn:=HN.out j hjm
    rw [HE.out] at z2 hn
    generalize ss.getD j ByteArray.empty=p at *
    have HG:=fun W=>refbagt_any W p d (by omega) (by omega) _ rfl
    obtain ⟨t,ht⟩ : ∃ t,bagT p d=t:=⟨_,rfl⟩
    have zt:=bagT_size p d
    rw [ht] at zt
    simp only [ht] at HG hn
    obtain ⟨d',hd'⟩ : ∃ d',dg (clk k) t=d':=⟨_,rfl⟩
    have HO:Hid (∀ W,Below w.heap.size w W→Calls Tryz.prog 108 #[.int .i64 k,.string t] W fun e w'=>e = .returned (.string d')∧Below W.heap.size W w'):=fun W hb=>refof_any W (HT.out.next hb) k t (by omega) d' hd'
    have HE2:Hid (bagL (clk k) (ss.drop j)=d'):=hn.trans hd'
    rw [e1]
    clear HE hn hd' ht zt z1 z2 e1 cm HL2
    go_wp2_with (first
     | (go_at_call 188; with_reducible refine (HG _).mono ?_; rintro e w1 ⟨rfl,hb1⟩; replace hb:=bnext hb hb1; clear hb1)
     | (go_at_call 108; with_reducible refine (HO.out _ hb).mono ?_; rintro e w2 ⟨rfl,hb2⟩; replace hb:=bnext hb hb2; clear hb2))
    go_roundg j
    case rel =>
     go_light
     exact ⟨j,d',rfl,rfl,by go_num,by omega,HE2.out,hb⟩
    case measure=>go_light; omega
set_option maxRecDepth 100000 in
theorem refroot_any (w:World) (ht:Tr w) (k:Int) (n:Nat) (hn:n<18446744073709551616) (ao:Option Addr) (b off len cap:Nat) (ss:List ByteArray) (hr:RdS w ao b off len ss) (hsz : ∀ s∈ss,s.size≤140737488351232) (hmx:len≤8796093022208) (r:ByteArray) (hq:dg (clk k) (rootT n (bagL (clk k) ss))=r) :
  Calls Tryz.prog 59 #[.int .i64 k,.int .u64 (n:Int),.slice ao len cap] w fun e w'=>e = .returned (.string r)∧Below w.heap.size w w':=by
 have hz:(bagL (clk k) ss).size≤140737488351232:=bagL_size (clk_le k) (by decide) _ hsz
 obtain ⟨d,hd⟩ : ∃ d,bagL (clk k) ss=d:=⟨_,rfl⟩
 have HBg:=refbagged_any w ht k ao b off len cap ss hr hsz hmx d hd
 rw [hd] at hq hz
 obtain ⟨t,hrt⟩ : ∃ t,rootT n d=t:=⟨_,rfl⟩
 have HRt:=fun W=>refroott_any W n hn d (by omega) t hrt
 have zt:=rootT_size n d
 rw [hrt] at hq zt
 have HO:Hid (∀ W,Below w.heap.size w W→Calls Tryz.prog 108 #[.int .i64 k,.string t] W fun e w'=>e = .returned (.string r)∧Below W.heap.size W w'):=fun W hb=>refof_any W (ht.next hb) k t (by omega) r hq
 have hb:=Below.refl w.heap.size w
 clear hq ht hd hrt zt hz hr hsz hmx
 go_enter Tryz.func59,Tryz.ntmps59
 go_wp2_with (first
  | (go_at_call 110; with_reducible refine HBg.mono ?_; rintro e w1 ⟨rfl,hb1⟩; replace hb:=bnext hb hb1; clear hb1)
  | (go_at_call 109; with_reducible refine (HRt _).mono ?_; rintro e w1 ⟨rfl,hb1⟩; replace hb:=bnext hb hb1; clear hb1)
  | (go_at_call 108; with_reducible refine (HO.out _ hb).mono ?_; rintro e w2 ⟨rfl,hb2⟩; replace hb:=bnext hb hb2; clear hb2))
 go_ret
 exact ⟨rfl,hb⟩
end Go.Proofs.YtoblgjledefdbaaGreatDoor
namespace Go.Proofs.YtoblgjledefdbaaGreatDoor
open Go.RowKit
open Cv (RdC zl cU tno)
open Pl (pw)
attribute [local go_sem ↓] Go.wp_at_zero Go.wp_at_succ
variable {GB RB:Nat}
theorem rdu_rd {w:World} {ao:Option Addr} {b off len:Nat} {l:List Nat} (h:RdU w ao b off len l):Cv.Rd w ao b off len l:=⟨h.hl,h.ptr,fun _ hj=>h.at hj⟩
set_option maxRecDepth 100000 in
theorem clone_any (w:World) (b off cap:Nat) (S:List Nat) (hr:RdU w (some ⟨b,off,none⟩) b off S.length S) (hm:S.length≤1048576) :
  Calls Tryz.prog 141 #[.slice (some ⟨b,off,none⟩) S.length cap] w fun e w' => ∃ v,e = .returned v∧Cv.Own w' w.heap.size v S∧Below w.heap.size w w':=by
 have hb:=bal (Below.refl w.heap.size w) (.cells #[] 48)
 have ho:Cv.Own (w.alloc (.cells #[] 48)) w.heap.size (.slice (some ⟨w.heap.size,0,none⟩) 0 0) []:=⟨rfl,.inr ⟨w.heap.size,0,_,rfl,Nat.le_refl _,heap_alloc_new w _,Nat.zero_le _,by decide,rfl,rfl⟩⟩
 have HO:=hide ho
 have HR:=hide (rdu_rdc (cap:=cap) (hr.next hb) (fun e=>by cases e))
 have HB:=hide hb
 have HE:=Lib.run_eql_slice_some_nil (P:=Tryz.prog) w ⟨b,off,none⟩ S.length cap Tryz.underlying66
 clear hr ho hb
 go_enter Tryz.func141,Tryz.ntmps141
 go_wp2_with (at_builtin; refine Cv.wpList_append_U _ rfl _ _ rfl w.heap.size _ [] rfl HO.out _ S rfl HR.out ?c1 ?c2 ?_)
 case c1=>simp only [List.length_nil]; omega
 case c2=>have:=HB.out.size; exact this
 intro v' w' o' g' _
 have HY:Hid (Cv.Own w' w.heap.size v' S∧Below w.heap.size w w'):=⟨o',HB.out.trans ((Below.refl _ _).grown g' HB.out.size (fun k hk=>by cases hk; exact Nat.le_refl _))⟩
 clear o' g'
 go_wp2
 go_ret
 exact ⟨_,rfl,HY.out.1,HY.out.2⟩
abbrev zP:Obj := .cells #[.int .i64 0,.int .i64 0,.int .u64 0,.int .u64 0,.slice none 0 0,.slice none 0 0] 138
def dgB (c:Nat) (L:List ByteArray) (n:Nat) (S:List Nat):List ByteArray:=(Cv.rst 0 n S).map fun b=>nd c L b.1 b.2
theorem rst_in {n:Nat} {S:List Nat} (he:Cv.errS n S=0) : ∀ b∈Cv.rst 0 n S,(b.2+1) * 2^b.1≤n:=by
 obtain ⟨h40,_,_,hc⟩:=Cv.errS_ok he
 exact fun b hb=>(Cv.til_mem (Cv.rst_but n S h40 hc) b hb).2
theorem rst_num {n:Nat} {S:List Nat} (he:Cv.errS n S=0):S.length≤n∧0<S.length:=by
 obtain ⟨h40,h0,_,hc⟩:=Cv.errS_ok he
 refine ⟨?_,h0.1⟩
 have key : ∀ (S:List Nat) (x n:Nat),Cv.Chain x S n→S.length+x≤n:=by
  intro S
  induction S with
  | nil=>intro x n h; have h':x≤n:=h; rw [List.length_nil]; omega
  | cons i S ih =>
   intro x n h
   have:=ih _ _ h.2
   have:=h.1
   rw [List.length_cons]; omega
 have:=key S 0 n hc
 omega
set_option maxRecDepth 100000 in
set_option maxHeartbeats 1000000 in
theorem bprove_ok (w:World) (m:Nat) (k:Int) (L:List ByteArray) (hF:Frs w m k L) (hL:L.length≤5000) (n:Nat) (hn:n≤L.length) (ao:Option Addr) (b off c:Nat) (S:List Nat) (hr:RdU w ao b off S.length S) (he:Cv.errS n S=0) (D:List ByteArray) (hD:dgB (clk k) L n S=D) :
  Calls Tryz.prog 82 #[.pointer (some ⟨m+1,0,none⟩),.int .u64 (n:Int),.slice ao S.length c] w fun e w' => ∃ vs vd,e = .returned (.tuple #[.agg #[.int .i64 2,.int .i64 k,.int .u64 0,.int .u64 (n:Int),vs,vd],.int .i64 0])∧Cv.Own w' w.heap.size vs S∧OwnS w' w.heap.size vd D∧Below w.heap.size w w':=by
 obtain ⟨hS1,hS0⟩:=rst_num he
 have hin:=rst_in he
 obtain ⟨h40,_,_,hc⟩:=Cv.errS_ok he
 obtain rfl:=hr.ptr hS0
 obtain ⟨o0,ho0⟩ : ∃ o0,zP=o0:=⟨_,rfl⟩
 have hb:=bal (Below.refl w.heap.size w) o0
 have HS:=fsize_any _ m k L (hF.next hb (Nat.le_refl _))
 obtain ⟨C,hC⟩ : ∃ C,zl (Cv.rst 0 n S)=C:=⟨_,rfl⟩
 have hlC:C.length≤1000000:=by rw [← hC,Cv.zl_len]; have:=Cv.rst_len n h40 S 0 hc; omega
 have HRs:Calls Tryz.prog 140 #[.int .u64 (n:Int),.slice (some ⟨b,off,none⟩) S.length c] (w.alloc o0) fun e w' => ∃ ao g cap,e = .returned (.tuple #[.slice ao C.length cap,.int .i64 0])∧RdB w' ao g 0 C.length C∧Below (w.alloc o0).heap.size (w.alloc o0) w':=by
  refine (Cv.rest_any n (w.alloc o0) (some ⟨b,off,none⟩) b off S.length c S (rdu_rd (hr.next hb)) (by omega)).mono fun e w' ⟨v,e1,e2,e3⟩ => ?_
  rw [he] at e1
  rw [Cv.rstS,if_pos he,hC] at e2
  obtain ⟨ao,g,n',cap,rfl,hr',_⟩:=own_rdB e2 (fun x hx=>by
   rw [← hC] at hx
   obtain ⟨b0,hb0,rfl⟩:=List.mem_map.1 hx
   exact (fit40 (hin b0 hb0) h40).1)
  obtain rfl:=hr'.len
  exact ⟨ao,g,cap,e1,hr',e3⟩
 have hds:dgs (clk k) L C=some D:=by rw [← hC,dgs_all (fun b hb=>Nat.le_trans (hin b hb) hn),← hD]; rfl
 have HD:Hid (∀ W ao g cap,Below w.heap.size w W→RdB W ao g 0 C.length C→Calls Tryz.prog 106 #[.pointer (some ⟨m+1,0,none⟩),.slice ao C.length cap] W fun e w'=>Below W.heap.size W w' ∧ ∃ ad md cd,e = .returned (.tuple #[.slice ad md cd,.bool true])∧OwnS w' W.heap.size (.slice ad md cd) D):=fun W ao g cap hb hr=>by
  refine (fdigests_any W m k L (hF.next hb (Nat.le_refl _)) ao g 0 cap C hr (by omega)).mono ?_
  rintro e w' ⟨hb',⟨h1,_⟩ | ⟨D',h1,v,rfl,ho⟩⟩
  ·rw [hds] at h1; cases h1
  ·rw [hds] at h1
   injection h1 with h1
   subst h1
   obtain ⟨ad,md,cd,rfl⟩:=Cv.own_slice ho
   exact ⟨hb',ad,md,cd,rfl,ho⟩
 have HSt:Hid (∀ W,Below w.heap.size w W→Calls Tryz.prog 134 #[.pointer (some ⟨m+1,0,none⟩)] W fun e w'=>e = .returned (.int .i64 k)∧W=w'):=fun W hb=>(fstrength_any W m k L (hF.next hb (Nat.le_refl _))).mono fun _ _ h=>⟨h.1,h.2.symm⟩
 have HCl:Hid (∀ W,Below w.heap.size w W→Calls Tryz.prog 141 #[.slice (some ⟨b,off,none⟩) S.length c] W fun e w' => ∃ a1 n1 c1,e = .returned (.slice a1 n1 c1)∧Cv.Own w' W.heap.size (.slice a1 n1 c1) S∧Below W.heap.size W w'):=fun W hb=>(clone_any W b off c S (hr.next hb) (by omega)).mono fun e w' ⟨v,e1,e2,e3⟩=>by
  obtain ⟨a1,n1,c1,rfl⟩:=Cv.own_slice e2
  exact ⟨a1,n1,c1,e1,e2,e3⟩
 have hn' : ¬ (L.length:Int)<(n:Int):=by omega
 have HP:Hid (∀ W,Below (w.alloc o0).heap.size (w.alloc o0) W→Six W w.heap.size (.int .i64 0) (.int .i64 0) (.int .u64 0) (.int .u64 0) (.slice none 0 0) (.slice none 0 0)):=fun W hb=>Six.next (show Six (w.alloc o0) _ _ _ _ _ _ _ by rw [← ho0]; exact six_new w _ _ _ _ _ _) hb
 rw [← ho0] at hb HS HP HRs
 unfold zP at hb HS HP HRs
 clear hF hn hr hL ho0 hin hds hD hlC hC hS1 hS0 hc h40 he
 go_enter Tryz.func82,Tryz.ntmps82
 go_wp2_with (first
  | (go_at_call 132; with_reducible refine HS.mono ?_; rintro e w0 ⟨rfl,rfl⟩)
  | (go_at_call 140; with_reducible refine HRs.mono ?_; rintro e w1 ⟨ao,g,cap,rfl,hr1,hb1⟩)
  | (go_at_call 106; with_reducible refine (HD.out _ _ _ _ (bnext hb hb1) hr1).mono ?_; rintro e w2 ⟨hb2,ad,md,cd,rfl,ho⟩)
  | (go_at_call 134; with_reducible refine (HSt.out _ (bnext (bnext hb hb1) hb2)).mono ?_; rintro e w3 ⟨rfl,rfl⟩)
  | (go_at_call 141; with_reducible refine (HCl.out _ (bnext (bnext hb hb1) hb2)).mono ?_; rintro e w4 ⟨a4,n4,c4,rfl,ho4,hb4⟩; have h6:=HP.out _ (bnext (bnext hb1 hb2) hb4); obtain ⟨k0,k1,k2,k3,k4,k5⟩:=h6.cells; have f0:=h6.fz))
 have hF6:=h6.put (.int .i64 2) (.int .i64 k) (.int .u64 0) (.int .u64 (n:Int)) (.slice a4 n4 c4) (.slice ad md cd)
 have hch:=put6_ch w4 w.heap.size (.int .i64 2) (.int .i64 k) (.int .u64 0) (.int .u64 (n:Int)) (.slice a4 n4 c4) (.slice ad md cd)
 have hle:=(bnext hb1 hb2).size
 unfold put6 at hF6 hch
 obtain ⟨s0,s1,s2,s3,s4,s5⟩:=hF6.cells
 rw [World.size_alloc] at hle
 refine bodyPost_ret (v := .tuple #[.agg #[.int .i64 2,.int .i64 k,.int .u64 0,.int .u64 (n:Int),.slice a4 n4 c4,.slice ad md cd],.int .i64 0]) (by simp [results,Tryz.results82,go_sem,s0,s1,s2,s3,s4,s5]) rfl ?_
 have hz1:=hb1.size
 rw [World.size_alloc] at hz1
 refine ⟨_,_,rfl,?_,?_,(bnext (bnext (bnext hb hb1) hb2) hb4).trans (hch.below (by rintro b rfl; exact Nat.le_refl _))⟩
 ·exact (keep_row ho4 fun g _ hg=>hch.block g (by omega)).mono (by omega)
 ·exact (keep_row (own_next ho hb4 (Nat.le_refl _)) fun g _ hg=>hch.block g (by omega)).mono (by omega)
end Go.Proofs.YtoblgjledefdbaaGreatDoor
namespace Go.Proofs.YtoblgjledefdbaaGreatDoor
open Go.RowKit
open Cv (RdC zl cU)
attribute [local go_sem ↓] Go.wp_at_zero Go.wp_at_succ
theorem dgB_size {c:Nat} (hc:c≤32) (L:List ByteArray) (n:Nat) (S:List Nat) : ∀ s∈dgB c L n S,s.size=c:=fun s hs=>by
 obtain ⟨b,_,rfl⟩:=List.mem_map.1 hs
 exact nd_size hc _ _ _
theorem dgB_len (c:Nat) (L:List ByteArray) (n:Nat) (S:List Nat):(dgB c L n S).length=(Cv.rst 0 n S).length:=List.length_map _
theorem bprove_rd (w:World) (m:Nat) (k:Int) (L:List ByteArray) (hF:Frs w m k L) (hL:L.length≤5000) (n:Nat) (hn:n≤L.length) (ao:Option Addr) (b off c:Nat) (S:List Nat) (hr:RdU w ao b off S.length S) (he:Cv.errS n S=0) (D:List ByteArray) (hD:dgB (clk k) L n S=D) :
  Calls Tryz.prog 82 #[.pointer (some ⟨m+1,0,none⟩),.int .u64 (n:Int),.slice ao S.length c] w fun e w' => ∃ gs cs ad bd cd,e = .returned (.tuple #[.agg #[.int .i64 2,.int .i64 k,.int .u64 0,.int .u64 (n:Int),.slice (some ⟨gs,0,none⟩) S.length cs,.slice ad D.length cd],.int .i64 0])∧RdU w' (some ⟨gs,0,none⟩) gs 0 S.length S∧S.length≤cs∧RdS w' ad bd 0 D.length D∧D.length≤cd∧(ad=none→cd=0)∧Cv.Own w' w.heap.size (.slice (some ⟨gs,0,none⟩) S.length cs) S∧OwnS w' w.heap.size (.slice ad D.length cd) D∧Below w.heap.size w w' :=
 (bprove_ok w m k L hF hL n hn ao b off c S hr he D hD).mono fun e w' ⟨vs,vd,e1,e2,e3,e4⟩=>by
  obtain ⟨gs,cs,rfl,_,hcs,_⟩:=ownU_form e2 (rst_num he).2
  obtain ⟨ad,bd,cd,rfl,r3,hcd,hnd⟩:=owns_rds e3 (fun s hs=>by rw [← hD] at hs; rw [dgB_size (clk_le k) _ _ _ s hs]; have:=clk_le k; omega)
  exact ⟨gs,cs,ad,bd,cd,e1,own_rdu (l':=[]) (by rw [List.append_nil]; exact e2),hcs,r3,hcd,hnd,e2,e3,e4⟩
end Go.Proofs.YtoblgjledefdbaaGreatDoor
namespace Go.Proofs.YtoblgjledefdbaaGreatDoor
open Go.RowKit
def pvB (k:Int) (L:List ByteArray) (n:Nat) (S:List Nat):PV:=⟨2,k,0,n,S,dgB (clk k) L n S⟩
theorem well_batch {k:Int} (k1:1≤k) (k2:k≤32) (L:List ByteArray) {n:Nat} (hn:n≤2^40) {S:List Nat} (he:Cv.errS n S=0):Well (pvB k L n S):=by
 have hck:(clk k:Int)=k:=by unfold clk; rw [if_neg (by omega),if_neg (by omega)]; omega
 refine ⟨?_,fun d hd => ?_⟩
 ·show cnt 2 k 0 n S=some (dgB (clk k) L n S).length
  rw [dgB_len,cnt,if_pos ⟨k1,k2,hn⟩,if_neg (by decide),if_pos rfl,if_pos ⟨rfl,he⟩]
 ·show (d.size:Int)=k
  rw [dgB_size (clk_le k) L n S d hd]; exact hck
section
variable {w:World} {a p:Nat} {U:Nat→Prop} {D:St.DV} {S:St.SV} {L:List ByteArray}
theorem rdu_alike {W:World} {ao:Option Addr} {b off len:Nat} {l:List Nat} (h:RdU w ao b off len l) (hb : ∀ c,c<w.heap.size→c≠a→W.heap[c]? = w.heap[c]?) (hn:0<len→b≠a):RdU W ao b off len l :=
 ⟨h.hl,h.ptr,fun j v hv=>by
  have hc:=h.rng j v hv
  have hlt:=World.block_lt_of_cell? _ _ hc
  exact (World.cell?_of_block (a:=⟨b,off+j,none⟩) (hb b hlt (hn (by have:=(List.getElem?_eq_some_iff.1 hv).1; rw [show (Cv.cU l).length=l.length by simp [Cv.cU]] at this; have:=h.hl; omega)))).trans hc⟩
theorem lbatch_ok (w:World) (ht:Tb w) (h:Lg w 0 a p U D S L) (hL:L.length≤5000) (n:Nat) (hn:n≤L.length) (ao:Option Addr) (b off len c:Nat) (X:List Nat) (hr:RdU w ao b off len X) (hb:0<len→b≠a) (he:Cv.errS n X=0) :
  Calls Tryz.prog 38 #[.pointer (some ⟨a,0,none⟩),.int .u64 (n:Int),.slice ao len c] w fun e w'=>e = .returned (.tuple #[.string ⟨(enc (pvB S.k L n X)).toArray⟩,.int .i64 0])∧Below w.heap.size w w':=by
 refine lb_of w ht h n ao len c _ 0 fun W m hT hbW hF => ?_
 have hrW:=rdu_alike hr hbW hb
 have hl:=hr.hl
 subst hl
 refine (bprove_rd W m S.k L hF hL n hn ao b off c X hrW he _ rfl).mono fun e w' z => ?_
 obtain ⟨gs,cs,ad,bd,cd,rfl,z1,z2,z3,z4,z5,z6,z7,z8⟩:=z
 have hw:=well_batch hF.k1 hF.k2 L (n:=n) (by omega) he
 refine ⟨_,_,rfl,z8,fun W' hW' => ?_⟩
 have hp:RdPC w' (some ⟨gs,0,none⟩) gs 0 cs ad bd 0 cd (pvB S.k L n X):=⟨z1,z3,by show (0:Nat)<_; decide,by show n<_; omega,?_,?_,z4⟩
 ·exact encoded_yes W' (hp.next hW') hw _ rfl
 ·show X.length≤_
  have:=(rst_num he).1
  omega
 ·show (dgB (clk (S.k:Int)) L n X).length≤_
  obtain ⟨h40,_,_,hc⟩:=Cv.errS_ok he
  rw [dgB_len]
  have:=rst_le h40 hc
  omega
end
end Go.Proofs.YtoblgjledefdbaaGreatDoor
namespace Go.Proofs.YtoblgjledefdbaaGreatDoor
theorem tx_of (s:ByteArray):St.tx s.data.toList=s:=by
 cases s
 rfl
theorem stE_zero {D:St.DV} {S:St.SV} : ∀ (ds:List ByteArray) (p:Nat),(∀ j d,ds[j]? = some d→St.nodD D S (p+j)=(d.data.toList,0))→stE D S p ds=0
 | [],_,_=>rfl
 | d::ds,p,h=>by
  have h0:=h 0 d rfl
  rw [Nat.add_zero] at h0
  rw [stE,h0,if_neg (fun q=>q rfl),if_pos (tx_of d)]
  refine stE_zero ds (p+1) fun j x hx => ?_
  rw [show p+1+j=p+(j+1) by omega]
  exact h (j+1) x (by simpa using hx)
structure Has (k:Nat) (L:List ByteArray) (D:St.DV):Prop where
 k1:1≤k
 k2:k≤32
 few:L.length≤65536
 sz : ∀ s∈L,s.size≤1048576
 down:D.down=false
 i:(St.bA k (itL k L)).a <+: (St.fget D.L St.nmI).now
 n:(St.bA k (itL k L)).b <+: (St.fget D.L St.nmN).now
section
variable {k:Nat} {L:List ByteArray} {D:St.DV} {S:St.SV}
theorem Has.ok (h:Has k L D):St.OkA k (itL k L):=itL_ok h.k1 h.k2 h.few h.sz
theorem Has.item (h:Has k L D) (hS:S.ends=(St.bA k (itL k L)).ends) {i:Nat} {x:ByteArray} (hx:L[i]? = some x):St.itmD D S i=(x.data.toList,0) :=
 St.item_ok h.ok hS h.down h.i i _ (itL_at k L i x hx)
theorem Has.tk (h:Has k L D) (hS:S.ends=(St.bA k (itL k L)).ends) (hk:S.k=k) : ∀ i,i≤L.length→tkL D S i=(L.take i,0)
 | 0,_=>rfl
 | i+1,hi=>by
  have ih:=h.tk hS hk i (by omega)
  obtain ⟨x,hx⟩ : ∃ x,L[i]? = some x:=⟨_,List.getElem?_eq_getElem (by omega)⟩
  have hit:=h.item hS hx
  have ht:L.take (i+1)=L.take i++[x]:=by
   rw [List.take_succ_eq_append_getElem (by omega)]
   congr 2
   exact Option.some.inj ((List.getElem?_eq_getElem (by omega)).symm.trans hx)
  have hst:stE D S (St.nn i) (mdL k (L.take i) x)=0:=stE_zero _ _ fun j d hd=>St.node_ok h.ok hS hk h.down h.n i j _ d (itL_at k L i x hx) hd
  rw [tkL,ih]
  simp only
  rw [hit,if_neg (fun q=>q rfl),if_neg (fun q=>q rfl),tx_of,hk,hst,if_neg (fun q=>q rfl),ht]
theorem ends_len (h:Has k L D):(St.bA k (itL k L)).ends.length=L.length:=by rw [h.ok.lens.ends,itL_len]
theorem Has.all (h:Has k L D) (hS:S.ends=(St.bA k (itL k L)).ends) (hk:S.k=k):tkL D S S.ends.length=(L,0):=by
 rw [hS,ends_len h,h.tk hS hk L.length (Nat.le_refl _),List.take_length]
theorem Has.get (h:Has k L D) (hS:S.ends=(St.bA k (itL k L)).ends) {i:Nat} {x:ByteArray} (hx:L[i]? = some x):gtD D S L i=(x,0):=by
 unfold gtD
 rw [h.item hS hx,if_neg (fun q=>q rfl),if_pos,tx_of]
 rw [tx_of,smL,List.getD_eq_getElem?_getD,List.getElem?_map,hx]; rfl
theorem has_ext (h1:1≤k) (h2:k≤32) (hf:L.length≤65536) (hs : ∀ s∈L,s.size≤1048576) (hd:D.down=false) (he:St.Ext k (itL k L) D.L):Has k L D :=
 ⟨h1,h2,hf,hs,hd,by rw [he.i]; exact List.prefix_rfl,by rw [he.n]; exact List.prefix_rfl⟩
theorem lo_of {D D':St.DV} (hh:Has k L D') (ho:St.opnD D (k:Int)=(D',some (St.sA k (itL k L)),0)):loD D (k:Int)=(D',some (St.sA k (itL k L),L),0):=by
 unfold loD
 rw [ho]
 simp only
 rw [hh.all rfl rfl,if_pos rfl]
theorem a_of {D D':St.DV} {S':St.SV} {e:Int} {x:ByteArray} (hx:x.size≤1048576) (hf:S.ends.length<65536) (hk:S.k=k) (ha:St.addD D S x.data.toList (mdL k L x)=(D',S',e)):aD D S L x=(D',S',if e=0 then L++[x] else L,e):=by
 unfold aD
 rw [if_neg (by omega),if_neg (by omega),hk,ha]
end
end Go.Proofs.YtoblgjledefdbaaGreatDoor
namespace Go.Proofs.YtoblgjledefdbaaGreatDoor
open Go.RowKit
attribute [local go_sem ↓] Go.wp_at_zero Go.wp_at_succ
theorem tmod_two {n m:Int} (h1:1≤m):Int.tmod (Int.tmod n m+m) m=n % m:=by
 have h2:=Int.tmod_lt_of_pos n (by omega:0<m)
 have h3 : -m<Int.tmod n m:=Int.lt_tmod_of_pos n (by omega)
 rw [Int.tmod_eq_emod_of_nonneg (by omega),Int.add_emod_right]
 have h4:=Int.mul_tdiv_add_tmod n m
 conv=>rhs; rw [← h4]
 rw [Int.mul_add_emod_self_left]
theorem lrest_any (w:World) (n m:Int) (h1:1≤m) (h2:m≤100) (r:Int) (hr:n % m=r) :
  Calls Tryz.prog 13 #[.int .i64 n,.int .i64 m] w fun e w'=>e = .returned (.int .i64 r)∧w=w':=by
 obtain ⟨u,hu⟩ : ∃ u,Int.tmod n m=u:=⟨_,rfl⟩
 have h3:=tmod_two (n:=n) h1
 have h4:=Int.tmod_lt_of_pos n (by omega:0<m)
 have h5 : -m<Int.tmod n m:=Int.lt_tmod_of_pos n (by omega)
 rw [hu] at h3 h4 h5
 rw [hr] at h3
 have hw:IntKind.i64.wrap (u+m)=u+m:=by rw [IntKind.wrap_i64]; omega
 obtain ⟨v,hv⟩ : ∃ v,u+m=v:=⟨_,rfl⟩
 rw [hv] at h3 hw
 have hw1:IntKind.i64.wrap u=u:=by rw [IntKind.wrap_i64]; omega
 have hw2:IntKind.i64.wrap r=r:=by
  have:=Int.emod_nonneg n (by omega:m≠0)
  have:=Int.emod_lt_of_pos n (by omega:0<m)
  rw [IntKind.wrap_i64]; omega
 have hm : ¬ m=0:=by omega
 have hmb:(m == 0)=false:=by simpa using hm
 clear h4 h5 hr h1 h2
 go_enter Tryz.func13,Tryz.ntmps13
 go_wp2
 go_ret
 exact ⟨rfl,rfl⟩
set_option maxRecDepth 100000 in
theorem lsize_nil (w:World):Calls Tryz.prog 33 #[.pointer none] w fun e w'=>e = .returned (.tuple #[.int .u64 0,.int .i64 200])∧Below w.heap.size w w':=by
 have HW:Hid (∀ W f,Calls Tryz.prog 72 #[.pointer none,f] W fun e w'=>e = .returned (.tuple #[.int .u64 0,.int .i64 200])∧W=w'):=fun W f=>(wholeU_nil W f).mono fun e w' z=>⟨z.1,z.2.symm⟩
 have u1:=bal (Below.refl w.heap.size w) (.cells #[.pointer none] 27)
 go_enter Tryz.func33,Tryz.ntmps33
 go_wp2_with (go_at_call 72; (with_reducible refine (HW.out _ _).mono ?_); rintro e w2 ⟨rfl,rfl⟩)
 go_ret2
 exact ⟨rfl,u1⟩
theorem itL_a {k c:Nat} : ∀ (L:List ByteArray),(∀ s∈L,s.size≤c)→(St.bA k (itL k L)).a.length≤(c+8) * L.length:=by
 intro L
 refine St.rev_ind (P:=fun L=>(∀ s∈L,s.size≤c)→(St.bA k (itL k L)).a.length≤(c+8) * L.length) (fun _=>by simp [itL,St.bA,St.BV.z]) (fun L x ih h => ?_) L
 have h1:=ih fun y hy=>h y (List.mem_append_left _ hy)
 have h2:=h x (by simp)
 rw [itL_snoc,St.bA_snoc]
 show ((St.bA k (itL k L)).a++St.Rc.pay x.data.toList).length≤_
 rw [List.length_append,St.Rc.pay_len,List.length_append,List.length_singleton,Nat.mul_add,Nat.mul_one]
 have:x.data.toList.length=x.size:=by simp
 omega
theorem itL_fits {k c:Nat} (h1:1≤k) (h2:k≤32) (hc:c≤1048576) {L:List ByteArray} (hf:L.length≤65536) (hs : ∀ s∈L,s.size≤c):(St.bA k (itL k L)).a.length+(St.bA k (itL k L)).b.length+(St.bA k (itL k L)).m.length≤(c+152) * L.length:=by
 have l:=(itL_ok h1 h2 hf (fun s h=>Nat.le_trans (hs s h) hc)).lens
 have a:=itL_a (k:=k) L hs
 have n:=St.nn_le L.length
 have b:=l.b
 have m:=l.m
 rw [itL_len] at b m
 rw [Nat.add_mul] at a ⊢
 omega
theorem a_qt {k R:Nat} {L:List ByteArray} {x:ByteArray} {D:St.DV} (h1:1≤k) (h2:k≤32) (hf:L.length<65536) (hs : ∀ s∈L++[x],s.size≤1048576) (hq:St.Qt R D) (he:St.Ext k (itL k L) D.L) (hR:(St.bA k (itL k (L++[x]))).a.length+(St.bA k (itL k (L++[x]))).b.length+(St.bA k (itL k (L++[x]))).m.length≤R) (hz:R≤268435456) :
  ∃ D',aD D (St.sA k (itL k L)) L x=(D',St.sA k (itL k (L++[x])),L++[x],0)∧St.Qt R D'∧St.Ext k (itL k (L++[x])) D'.L∧D'.acts=D.acts+6:=by
 have hok:=itL_ok h1 h2 (L:=L++[x]) (by rw [List.length_append,List.length_singleton]; omega) hs
 have hok0:=itL_ok h1 h2 (L:=L) (by omega) (fun s h=>hs s (List.mem_append_left _ h))
 rw [itL_snoc] at hok hR ⊢
 obtain ⟨D',y1,y2,y3,y4⟩:=St.add_ok hok hq he hR hz
 refine ⟨D',?_,y2,y3,y4⟩
 have he:(St.sA k (itL k L)).ends.length=L.length:=by
  show (St.bA k (itL k L)).ends.length=_
  rw [hok0.lens.ends,itL_len]
 rw [a_of (hs x (by simp)) (by omega) rfl y1,if_pos rfl]
end Go.Proofs.YtoblgjledefdbaaGreatDoor
