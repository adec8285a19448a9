/- Own work. -/
import Derived.Deep.Onto
import Derived.ArgAppend
import Derived.Laws.AppendOwnNone
import Derived.Laws.IdiomStrings
import Derived.Deep.RegionWith
import Derived.Handy
import Derived.Test.YtoblgjledefdbaaGreatDoorRows
import Derived.Test.YtoblgjledefdbaaGreatDoorProg
import Derived.Below
import Derived.WalkKit
import Derived.WalkSpells
import Derived.KernelRfl
import Derived.Deep.RegionHeld3
import Derived.BigQuiet
import Derived.Outline
import Derived.Deep.LoopGhost
import Derived.Deep.DrawnRows
import Derived.Deep.Light
import Derived.Laws.Bits64b
import Derived.Test.YtoblgjledefdbaaGreatDoorQf02
namespace Go.Proofs.YtoblgjledefdbaaGreatDoor
open Go.RowKit
attribute [local go_sem ↓] Go.wp_at_zero Go.wp_at_succ
theorem bnext {w W w2:World} (h:Below w.heap.size w W) (h2:Below W.heap.size W w2):Below w.heap.size w w2:=h.trans (h2.mono h.size)
theorem bal {w W:World} (h:Below w.heap.size w W) (o:Obj):Below w.heap.size w (W.alloc o):=h.alloc h.size o
theorem below_drewN {B:Nat} {a w:World} (h:Below B a w) (n:Nat):Below B a (w.drewN n):=⟨h.os,h.tape,h.output,h.size,h.block⟩
theorem cW_ne {l:List Int} (h:0<l.length):cW l≠[]:=by
 intro e; have:=congrArg List.length e; rw [cW_len,List.length_nil] at this; omega
structure Tb (w:World):Prop where
 rs:w.rangeAt 3 0 (cW RS)
theorem Tb.next {w W:World} (h:Tb w) (hb:Below w.heap.size w W):Tb W :=
 ⟨range_below hb (range_lt h.rs (cW_ne (by rw [RS_len]; decide))) h.rs⟩
def clk (k:Int):Nat:=if k<1 then 1 else if 32<k then 32 else k.toNat
theorem clk_ge (k:Int):1≤clk k:=by
 unfold clk
 split
 ·omega
 ·split <;> omega
theorem clk_le (k:Int):clk k≤32:=by
 unfold clk
 split
 ·omega
 ·split <;> omega
theorem bounded_any (w:World) (k:Int) (x:Int) (hx:(clk k:Int)=x) :
  Calls Tryz.prog 279 #[.int .i64 k] w fun e w'=>e = .returned (.int .i64 x)∧w'=w:=by
 subst hx
 unfold clk
 go_enter Tryz.func279,Tryz.ntmps279
 by_cases h1:k<1
 ·have e1 : ¬ (1≤k):=by omega
  rw [if_pos h1]
  clear h1
  go_wp2
  go_ret
  simp
 ·by_cases h2:32<k
  ·have e1:1≤k:=by omega
   have e2 : ¬ (k≤32):=by omega
   rw [if_neg h1,if_pos h2]
   clear h1 h2
   go_wp2
   go_ret
   simp
  ·have e1:1≤k:=by omega
   have e2:k≤32:=by omega
   have e3:(k.toNat:Int)=k:=by omega
   rw [if_neg h1,if_neg h2,e3]
   clear h1 h2
   go_wp2
   go_ret
   simp
theorem one_size (x:Int):(strB [x]).size=1:=rfl
theorem conv_one (w:World) (x:Int):(convert 127 9 (.slice (some ⟨w.heap.size,0,none⟩) 1 1)).run Tryz.prog (w.alloc (.cells #[.int .u8 x] 5)) = .ok (.string (strB [x])) (w.alloc (.cells #[.int .u8 x] 5)) :=
 conv_str _ _ [x] 1 rfl (range_new w (cB [x]) 5)
theorem strB_size (l:List Int):(strB l).size=l.length:=by
 have : ∀ (l:List Int) (r:ByteArray),(l.foldl (fun r n=>r.push (UInt8.ofNat n.toNat)) r).size=r.size+l.length:=by
  intro l
  induction l with
  | nil=>intro r; rfl
  | cons x t ih=>intro r; rw [List.foldl_cons,ih,ByteArray.size_push,List.length_cons]; omega
 rw [strB,this]; simp
theorem shaS_size (rs t:List Int):(shaS rs t).size=32:=by rw [shaS,strB_size,shaT,outB_len]
def leafT (s:ByteArray):ByteArray:=strB [0]++s
def nodeT (a b:ByteArray):ByteArray:=(strB [1]++a)++b
theorem leafT_size (s:ByteArray):(leafT s).size=1+s.size:=by rw [leafT,ByteArray.size_append,one_size]
theorem nodeT_size (a b:ByteArray):(nodeT a b).size=1+a.size+b.size:=by rw [nodeT,ByteArray.size_append,ByteArray.size_append,one_size]
def dg (c:Nat) (t:ByteArray):ByteArray:=(shaS RS (tB t)).extract 0 c
theorem dg_size {c:Nat} (hc:c≤32) (t:ByteArray):(dg c t).size=c:=by
 rw [dg,ByteArray.size_extract,shaS_size]; omega
theorem sha_one (w:World) (ht:Tb w) (t:ByteArray) (hs:t.size<4611686018427387904) :
  Calls Tryz.prog 278 #[.slice (some ⟨w.heap.size,0,none⟩) 1 1] (w.alloc (.cells #[.string t] 9)) fun e w'=>e = .returned (.string (shaS RS (tB t)))∧Below w.heap.size w w':=by
 have e:flat [t]=tB t:=by simp [flat]
 refine (of_any _ (some ⟨w.heap.size,0,none⟩) w.heap.size 0 1 1 [t] rfl (fun _=>rfl) (range_new w [.string t] 9) (by decide) RS RS_len (World.rangeAt_alloc ht.rs _) (by rw [e,tB_len]; exact hs)).mono fun e' w' ⟨he,hb'⟩=>⟨?_,?_⟩
 ·rw [he,e]
 ·exact ((Below.refl _ _).alloc (Nat.le_refl _) _).trans (hb'.mono (by simp))
set_option maxRecDepth 100000 in
theorem hof_any (w:World) (ht:Tb w) (k:Int) (t:ByteArray) (hs:t.size<4611686018427387904) (r:ByteArray) (hr:dg (clk k) t=r) :
  Calls Tryz.prog 183 #[.int .i64 k,.string t] w fun e w'=>e = .returned (.string r)∧Below w.heap.size w w':=by
 subst hr
 have HS:=sha_one w ht t hs
 unfold dg
 have hz:=shaS_size RS (tB t)
 generalize shaS RS (tB t)=z at *
 have c1:=clk_ge k
 have c2:=clk_le k
 have HC:=fun W=>bounded_any W k (clk k) rfl
 generalize clk k=c at *
 have h1:(0:Int)≤(c:Int):=by omega
 have h2:(c:Int)≤32:=by omega
 clear ht hs c1
 go_enter Tryz.func183,Tryz.ntmps183
 go_wp2_with (first
  | (go_at_call 278; with_reducible refine HS.mono ?_; rintro e w1 ⟨rfl,hb1⟩)
  | (go_at_call 279; with_reducible refine (HC _).mono ?_; rintro e w2 ⟨rfl,rfl⟩))
 go_ret
 exact ⟨rfl,hb1⟩
set_option maxRecDepth 100000 in
theorem leaft_any (w:World) (s:ByteArray) (hs:s.size<2305843009213693952) :
  Calls Tryz.prog 232 #[.string s] w fun e w'=>e = .returned (.string (leafT s))∧Below w.heap.size w w':=by
 have cv:=conv_one w 0
 unfold leafT
 have hz:=one_size 0
 generalize strB [0]=z at *
 have hns : ¬ (9223372036854775807<1+s.size):=by omega
 go_enter Tryz.func232,Tryz.ntmps232
 go_wp2
 go_ret
 exact ⟨rfl,bal (Below.refl _ _) _⟩
set_option maxRecDepth 100000 in
theorem nodet_any (w:World) (a b:ByteArray) (hs:a.size<2305843009213693952) (hs2:b.size<2305843009213693952) :
  Calls Tryz.prog 319 #[.string a,.string b] w fun e w'=>e = .returned (.string (nodeT a b))∧Below w.heap.size w w':=by
 have cv:=conv_one w 1
 unfold nodeT
 have hz:=one_size 1
 generalize strB [1]=z at *
 have hns : ¬ (9223372036854775807<1+a.size):=by omega
 have hns2 : ¬ (9223372036854775807<1+a.size+b.size):=by omega
 go_enter Tryz.func319,Tryz.ntmps319
 go_wp2
 go_ret
 exact ⟨rfl,bal (Below.refl _ _) _⟩
def chk (k:Int):Int:=if k<1∨32<k then 70 else 0
theorem check_any (w:World) (k:Int):Calls Tryz.prog 91 #[.int .i64 k] w fun e w'=>e = .returned (.int .i64 (chk k))∧w'=w:=by
 unfold chk
 go_enter Tryz.func91,Tryz.ntmps91
 by_cases h1:k<1
 ·rw [if_pos (.inl h1)]
  go_wp2
  go_ret
  simp
 ·by_cases h2:32<k
  ·rw [if_pos (.inr h2)]
   go_wp2
   go_ret
   simp
  ·rw [if_neg (by omega)]
   go_wp2
   go_ret
   simp
theorem hide {p:Prop} (h:p):Hid p:=h
structure RdS (w:World) (ao:Option Addr) (b off len:Nat) (ss:List ByteArray):Prop where
 hl:ss.length=len
 ptr:0<len→ao=some ⟨b,off,none⟩
 rng:w.rangeAt b off (ss.map Value.string)
 sz : ∀ s∈ss,s.size≤9223372036854775807
theorem RdS.lt {w:World} {ao:Option Addr} {b off len:Nat} {ss:List ByteArray} (h:RdS w ao b off len ss) (h0:0<len):b<w.heap.size :=
 range_lt h.rng (by intro e; have:=congrArg List.length e; rw [List.length_map,List.length_nil,h.hl] at this; omega)
theorem RdS.next {w W:World} {ao:Option Addr} {b off len B:Nat} {ss:List ByteArray} (h:RdS w ao b off len ss) (hb:Below B w W) (hB:w.heap.size≤B):RdS W ao b off len ss:=by
 refine ⟨h.hl,h.ptr,?_,h.sz⟩
 by_cases h0:0<len
 ·exact range_below hb (Nat.lt_of_lt_of_le (h.lt h0) hB) h.rng
 ·have:ss=[]:=List.length_eq_zero_iff.1 (by rw [h.hl]; omega)
  rw [this]; intro j v hv; cases hv
theorem RdS.at {w:World} {ao:Option Addr} {b off len:Nat} {ss:List ByteArray} (h:RdS w ao b off len ss) {k:Nat} (hk:k<len):w.cell? ⟨b,off+k,none⟩=some (.string (ss.getD k ByteArray.empty)) :=
 h.rng k _ (by have:=h.hl; simp [List.getElem?_eq_getElem (show k<ss.length by omega),List.getD_eq_getElem?_getD])
theorem getD_mem {ss:List ByteArray} {k:Nat} (hk:k<ss.length):ss.getD k ByteArray.empty∈ss:=by
 rw [List.getD_eq_getElem?_getD,List.getElem?_eq_getElem hk]; exact List.getElem_mem _
set_option maxRecDepth 100000 in
theorem leaf_any (w:World) (ht:Tb w) (k:Int) (s:ByteArray) (hs:s.size<2305843009213693952) (r:ByteArray) (hr:dg (clk k) (leafT s)=r) :
  Calls Tryz.prog 145 #[.int .i64 k,.string s] w fun e w'=>e = .returned (.string r)∧Below w.heap.size w w':=by
 have HL:=leaft_any w s hs
 have HO:Hid (∀ W,Below w.heap.size w W→Calls Tryz.prog 183 #[.int .i64 k,.string (leafT s)] W fun e w'=>e = .returned (.string r)∧Below W.heap.size W w'):=fun W hb=>hof_any W (ht.next hb) k _ (by rw [leafT_size]; omega) r hr
 clear hr ht hs
 generalize leafT s=t at *
 go_enter Tryz.func145,Tryz.ntmps145
 go_wp2_with (first
  | (go_at_call 232; with_reducible refine HL.mono ?_; rintro e w1 ⟨rfl,hb1⟩)
  | (go_at_call 183; with_reducible refine (HO.out _ hb1).mono ?_; rintro e w2 ⟨rfl,hb2⟩))
 go_ret
 exact ⟨rfl,bnext hb1 hb2⟩
set_option maxRecDepth 100000 in
theorem node_any (w:World) (ht:Tb w) (k:Int) (a b:ByteArray) (hs:a.size<2305843009213693952) (hs2:b.size<2305843009213693952) (r:ByteArray) (hr:dg (clk k) (nodeT a b)=r) :
  Calls Tryz.prog 227 #[.int .i64 k,.string a,.string b] w fun e w'=>e = .returned (.string r)∧Below w.heap.size w w':=by
 have HL:=nodet_any w a b hs hs2
 have HO:Hid (∀ W,Below w.heap.size w W→Calls Tryz.prog 183 #[.int .i64 k,.string (nodeT a b)] W fun e w'=>e = .returned (.string r)∧Below W.heap.size W w'):=fun W hb=>hof_any W (ht.next hb) k _ (by rw [nodeT_size]; omega) r hr
 clear hr ht hs hs2
 generalize nodeT a b=t at *
 go_enter Tryz.func227,Tryz.ntmps227
 go_wp2_with (first
  | (go_at_call 319; with_reducible refine HL.mono ?_; rintro e w1 ⟨rfl,hb1⟩)
  | (go_at_call 183; with_reducible refine (HO.out _ hb1).mono ?_; rintro e w2 ⟨rfl,hb2⟩))
 go_ret
 exact ⟨rfl,bnext hb1 hb2⟩
end Go.Proofs.YtoblgjledefdbaaGreatDoor
namespace Go.Proofs.YtoblgjledefdbaaGreatDoor.Pl
def ones:Nat→Nat→Nat
 | 0,_=>0
 | k+1,n=>n % 2+ones k (n / 2)
theorem div_pow_succ (n k:Nat):n / 2^(k+1)=n / 2^k / 2:=by
 rw [Nat.pow_succ,Nat.div_div_eq_div_mul]
theorem ones_le (k n:Nat):ones k n≤k:=by
 induction k generalizing n with
 | zero=>exact Nat.le_refl _
 | succ k ih=>have:=ih (n / 2); simp only [ones]; omega
theorem ones_step (k n:Nat) (hk:k<64):ones (64 - k) (n / 2^k)=n / 2^k % 2+ones (64 - (k+1)) (n / 2^(k+1)):=by
 rw [show 64 - k=(64 - (k+1))+1 by omega,ones,div_pow_succ]
def pw (h:Nat):Nat:=2^h
theorem pw_succ (h:Nat):pw (h+1)=2 * pw h:=by simp [pw,Nat.pow_succ,Nat.mul_comm]
theorem pw_zero:pw 0=1:=rfl
theorem pw_pos (h:Nat):0<pw h:=Nat.two_pow_pos h
theorem pw_add (a b:Nat):pw (a+b)=pw a * pw b:=Nat.pow_add 2 a b
theorem pw_le {a b:Nat} (h:a≤b):pw a≤pw b:=Nat.pow_le_pow_right (by decide) h
theorem ones_more (j k:Nat) (h:k<2^j):ones (j+1) k=ones j k:=by
 induction j generalizing k with
 | zero=>simp at h; subst h; rfl
 | succ j ih =>
  rw [ones,ih (k / 2) (by rw [Nat.pow_succ] at h; omega)]; rfl
def trl:Nat→Nat→Nat
 | 0,_=>0
 | f+1,n=>if n % 2=1 then trl f (n / 2)+1 else 0
theorem trl_step (f n:Nat) (h:n % 2=1):trl (f+1) n=trl f (n / 2)+1:=by rw [trl,if_pos h]
theorem trl_none (f n:Nat) (h : ¬ n % 2=1):trl (f+1) n=0:=by rw [trl,if_neg h]
end Go.Proofs.YtoblgjledefdbaaGreatDoor.Pl
namespace Go.Proofs.YtoblgjledefdbaaGreatDoor
open Go.RowKit
open Pl (ones)
def tr:Nat→Nat→Nat
 | 0,_=>0
 | k+1,n=>if n % 2=1 then 0 else tr k (n / 2)+1
theorem tr_le (k n:Nat):tr k n≤k:=by
 induction k generalizing n with
 | zero=>exact Nat.le_refl _
 | succ k ih=>have:=ih (n / 2); simp only [tr]; split <;> omega
theorem tr_step (k n:Nat) (hk:k<64):tr (64 - k) (n / 2^k)=if n / 2^k % 2=1 then 0 else tr (64 - (k+1)) (n / 2^(k+1))+1:=by
 rw [show 64 - k=(64 - (k+1))+1 by omega,tr,Pl.div_pow_succ]
theorem mod_two (n h:Nat):n % 2^(h+1)=n % 2+2 * (n / 2 % 2^h):=by
 rw [Nat.pow_succ,Nat.mul_comm,Nat.mod_mul]
theorem div_two (n h:Nat):n / 2^(h+1)=n / 2 / 2^h:=by
 rw [Nat.pow_succ,Nat.mul_comm,Nat.div_div_eq_div_mul]
theorem tr_eq : ∀ (F h n:Nat),h<F→(tr F n=h↔n % 2^h=0∧n / 2^h % 2=1)
 | F+1,0,n,_=>by
  simp only [tr,Nat.pow_zero,Nat.mod_one,Nat.div_one,true_and]
  split <;> simp_all
 | F+1,h+1,n,hh=>by
  have ih:=tr_eq F h (n / 2) (by omega)
  rw [mod_two,div_two]
  simp only [tr]
  by_cases e:n % 2=1
  ·rw [if_pos e,e]
   constructor
   ·intro h; omega
   ·rintro ⟨h,_⟩; omega
  ·rw [if_neg e]
   constructor
   ·intro h1
    have:=ih.1 (by omega)
    exact ⟨by rw [this.1]; omega,this.2⟩
   ·rintro ⟨h1,h2⟩
    have:=ih.2 ⟨by omega,h2⟩
    omega
theorem tr_lt : ∀ (F h n:Nat),h≤F→(tr F n<h↔n % 2^h≠0)
 | F,0,n,_=>by simp [Nat.mod_one]
 | F+1,h+1,n,hh=>by
  have ih:=tr_lt F h (n / 2) (by omega)
  rw [mod_two]
  simp only [tr]
  by_cases e:n % 2=1
  ·rw [if_pos e]
   constructor
   ·intro _; omega
   ·intro _; omega
  ·rw [if_neg e]
   constructor
   ·intro h1
    have:=ih.1 (by omega)
    omega
   ·intro h1
    have:=ih.2 (by omega)
    omega
def ol {α:Type} (g:Nat→Nat→α):Nat→Nat→List α
 | 0,_=>[]
 | F+1,m=>(if m / 2^F % 2=1 then [g F (m / 2^F)] else [])++ol g F m
theorem mod_bit {m F:Nat} (h:m % 2^(F+1)=0):m % 2^F=0∧m / 2^F % 2=0:=by
 rw [Nat.pow_succ,Nat.mod_mul] at h
 have:=Nat.two_pow_pos F
 refine ⟨by omega,?_⟩
 rcases Nat.eq_zero_of_add_eq_zero_left h |> Nat.mul_eq_zero.1 with h | h
 ·omega
 ·exact h
theorem ol_nil {α:Type} (g:Nat→Nat→α) : ∀ F m,m % 2^F=0→ol g F m=[]
 | 0,_,_=>rfl
 | F+1,m,h=>by
  obtain ⟨h1,h2⟩:=mod_bit h
  rw [ol,if_neg (by omega),ol_nil g F m h1]; rfl
theorem ol_last {α:Type} (g:Nat→Nat→α) : ∀ F h m,h<F→m % 2^h=0→m / 2^h % 2=1→ol g F m=ol g F (m - 2^h)++[g h (m / 2^h)]
 | F+1,h,m,hF,h0,h1=>by
  have hp:=Nat.two_pow_pos h
  have hm:2^h≤m:=by
   apply Nat.le_of_not_lt
   intro hlt
   rw [Nat.div_eq_of_lt hlt] at h1
   omega
  by_cases e:h=F
  ·subst e
   have hz:(m - 2^h) % 2^(h+1)=0:=by
    have e1:m=2^h * (m / 2^h):=by have:=Nat.div_add_mod m (2^h); omega
    obtain ⟨q,hq⟩ : ∃ q,m / 2^h=2 * q+1:=⟨m / 2^h / 2,by omega⟩
    rw [hq,Nat.mul_add,Nat.mul_one,← Nat.mul_assoc] at e1
    rw [e1,Nat.add_sub_cancel,Nat.pow_succ,Nat.mul_mod_right]
   rw [ol,if_pos h1,ol_nil g h m h0,ol_nil g (h+1) _ hz]; rfl
  ·have hlt:h<F:=by omega
   have hd:(m - 2^h) / 2^F=m / 2^F:=by
    obtain ⟨d,rfl⟩ : ∃ d,F=h+(d+1):=⟨F - h - 1,by omega⟩
    rw [Nat.pow_add,← Nat.div_div_eq_div_mul,← Nat.div_div_eq_div_mul,Nat.pow_succ,Nat.mul_comm (2^d),← Nat.div_div_eq_div_mul,← Nat.div_div_eq_div_mul]
    have:(m - 2^h) / 2^h=m / 2^h - 1:=by
     have:=Nat.sub_mul_div m (2^h) 1
     rw [Nat.mul_one] at this
     exact this
    rw [this]
    congr 1
    generalize m / 2^h=x at h1
    omega
   rw [ol,ol,hd,ol_last g F h m hlt h0 h1,List.append_assoc]
theorem ol_len_le {α:Type} (g:Nat→Nat→α) : ∀ F m,(ol g F m).length≤F
 | 0,_=>Nat.le_refl _
 | F+1,m=>by
  have:=ol_len_le g F m
  rw [ol,List.length_append]
  split <;> simp <;> omega
theorem ones_top : ∀ F m,ones (F+1) m=m / 2^F % 2+ones F m
 | 0,m=>by simp [ones]
 | F+1,m=>by
  rw [ones,ones_top F (m / 2),ones,div_two]
  omega
theorem ol_ones {α:Type} (g:Nat→Nat→α) : ∀ F m,(ol g F m).length=ones F m
 | 0,_=>rfl
 | F+1,m=>by
  rw [ol,List.length_append,ones_top,ol_ones g F m]
  have:=Nat.mod_two_eq_zero_or_one (m / 2^F)
  rcases this with e | e <;> rw [e] <;> simp
theorem ones_pad (j m:Nat) (h:m<2^j) : ∀ d,ones (j+d) m=ones j m
 | 0=>rfl
 | d+1=>by
  rw [← Nat.add_assoc,Pl.ones_more (j+d) m (Nat.lt_of_lt_of_le h (Nat.pow_le_pow_right (by decide) (by omega))),ones_pad j m h d]
def hts (n:Nat):List Nat:=ol (fun h _=>h) 41 n
theorem hts_ones {n:Nat} (hn:n≤1099511627776):(hts n).length=ones 64 n:=by
 rw [hts,ol_ones,show 64=41+23 from rfl,ones_pad 41 n (by omega) 23]
theorem hts_le (n:Nat):(hts n).length≤41:=ol_len_le _ _ _
def carry (c:Nat):Nat→Nat→List ByteArray→ByteArray→List ByteArray×List ByteArray
 | 0,_,P,d=>([d],P++[d])
 | f+1,t,P,d =>
  if t % 2=1 then
   (d::(carry c f (t / 2) (P.take (P.length - 1)) (dg c (nodeT (P.getD (P.length - 1) ByteArray.empty) d))).1,(carry c f (t / 2) (P.take (P.length - 1)) (dg c (nodeT (P.getD (P.length - 1) ByteArray.empty) d))).2)
  else ([d],P++[d])
theorem carry_odd {c f t:Nat} {P:List ByteArray} {d:ByteArray} (h:t % 2=1) {d':ByteArray} (hd:dg c (nodeT (P.getD (P.length - 1) ByteArray.empty) d)=d') :
  carry c (f+1) t P d=(d::(carry c f (t / 2) (P.take (P.length - 1)) d').1,(carry c f (t / 2) (P.take (P.length - 1)) d').2):=by
 rw [carry,if_pos h,hd]
theorem carry_even {c f t:Nat} {P:List ByteArray} {d:ByteArray} (h:t % 2≠1):carry c f t P d=([d],P++[d]):=by
 cases f with
 | zero=>rfl
 | succ f=>rw [carry,if_neg h]
theorem carry_size {c:Nat} (hc:c≤32) : ∀ (f t:Nat) (P:List ByteArray) (d:ByteArray),(∀ s∈P,s.size=c)→d.size=c→(∀ s∈(carry c f t P d).1,s.size=c)∧(∀ s∈(carry c f t P d).2,s.size=c):=by
 intro f
 induction f with
 | zero =>
  intro t P d hP hd
  simp only [carry]
  refine ⟨fun s hs=>by simp at hs; rw [hs]; exact hd,fun s hs => ?_⟩
  rcases List.mem_append.1 hs with h | h
  ·exact hP s h
  ·simp at h; rw [h]; exact hd
 | succ f ih =>
  intro t P d hP hd
  by_cases h:t % 2=1
  ·rw [carry_odd h rfl]
   obtain ⟨i1,i2⟩:=ih (t / 2) (P.take (P.length - 1)) (dg c (nodeT (P.getD (P.length - 1) ByteArray.empty) d)) (fun s hs=>hP s (List.mem_of_mem_take hs)) (dg_size hc _)
   refine ⟨fun s hs => ?_,i2⟩
   rcases List.mem_cons.1 hs with h | h
   ·rw [h]; exact hd
   ·exact i1 s h
  ·rw [carry_even h]
   refine ⟨fun s hs=>by simp at hs; rw [hs]; exact hd,fun s hs => ?_⟩
   rcases List.mem_append.1 hs with h | h
   ·exact hP s h
   ·simp at h; rw [h]; exact hd
theorem step_num {h t:Nat} (ho:t % 2=1):2^h * t - 2^h=2^(h+1) * (t / 2)∧2^(h+1) * (t / 2)+2^(h+1)=2^h * t+2^h:=by
 obtain ⟨q,rfl⟩ : ∃ q,t=2 * q+1:=⟨t / 2,by omega⟩
 rw [show (2 * q+1) / 2=q by omega,Nat.pow_succ,Nat.mul_add,Nat.mul_one,Nat.mul_assoc]
 omega
theorem pow_num (h t:Nat):2^h * t % 2^h=0∧2^h * t / 2^h=t:=⟨Nat.mul_mod_right _ _,Nat.mul_div_cancel_left _ (Nat.two_pow_pos h)⟩
theorem ol_even {α:Type} (g:Nat→Nat→α) {F h t:Nat} (hF:h<F) (he:t % 2≠1):ol g F (2^h * t+2^h)=ol g F (2^h * t)++[g h (t+1)]:=by
 have e:2^h * t+2^h=2^h * (t+1):=by rw [Nat.mul_add,Nat.mul_one]
 obtain ⟨a,b⟩:=pow_num h (t+1)
 rw [e,ol_last g F h _ hF a (by rw [b]; omega),b,← e,Nat.add_sub_cancel]
theorem ol_odd {α:Type} (g:Nat→Nat→α) {F h t:Nat} (hF:h<F) (ho:t % 2=1):ol g F (2^h * t)=ol g F (2^(h+1) * (t / 2))++[g h t]:=by
 obtain ⟨a,b⟩:=pow_num h t
 rw [ol_last g F h _ hF a (by rw [b]; exact ho),b,(step_num ho).1]
theorem carry_len (c F:Nat) : ∀ (f h t:Nat) (P:List ByteArray) (d:ByteArray),h+f<F→t<2^f→P.length=(ol (fun h _=>h) F (2^h * t)).length→(carry c f t P d).2.length=(ol (fun h _=>h) F (2^h * t+2^h)).length:=by
 intro f
 induction f with
 | zero =>
  intro h t P d hF ht hl
  obtain rfl:t=0:=by simpa using ht
  rw [ol_even _ (by omega) (by decide),carry,List.length_append,List.length_append,hl]; rfl
 | succ f ih =>
  intro h t P d hF ht hl
  by_cases ho:t % 2=1
  ·rw [carry_odd ho rfl]
   rw [ol_odd _ (by omega) ho,List.length_append,List.length_singleton] at hl
   show (carry c f (t / 2) (P.take (P.length - 1)) (dg c (nodeT (P.getD (P.length - 1) ByteArray.empty) d))).2.length=_
   rw [ih (h+1) (t / 2) _ _ (by omega) (by rw [Nat.pow_succ] at ht; omega) (by rw [List.length_take]; omega),(step_num ho).2]
  ·rw [carry_even ho,ol_even _ (by omega) ho,List.length_append,List.length_append,hl]; rfl
theorem carry_ol (c F:Nat) (g:Nat→Nat→ByteArray) (m:Nat) (hg : ∀ h t,2^h * (t+1)≤m→t % 2=1→dg c (nodeT (g h t) (g h (t+1)))=g (h+1) (t / 2+1)) : ∀ (f h t:Nat),h+f<F→t<2^f→2^h * t+2^h≤m →
  (carry c f t (ol g F (2^h * t)) (g h (t+1))).2=ol g F (2^h * t+2^h):=by
 intro f
 induction f with
 | zero =>
  intro h t hF ht hm
  obtain rfl:t=0:=by simpa using ht
  rw [ol_even _ (by omega) (by decide),carry]
 | succ f ih =>
  intro h t hF ht hm
  by_cases ho:t % 2=1
  ·have e1:=ol_odd g (F:=F) (h:=h) (t:=t) (by omega) ho
   have e2:(ol g F (2^h * t)).length - 1=(ol g F (2^(h+1) * (t / 2))).length:=by rw [e1]; simp
   have hd:dg c (nodeT ((ol g F (2^h * t)).getD ((ol g F (2^h * t)).length - 1) ByteArray.empty) (g h (t+1)))=g (h+1) (t / 2+1):=by
    rw [e2,e1,← hg h t (by rw [Nat.mul_add,Nat.mul_one]; exact hm) ho]
    simp [List.getD_eq_getElem?_getD]
   rw [carry_odd ho hd,e2]
   show (carry c f (t / 2) ((ol g F (2^h * t)).take (ol g F (2^(h+1) * (t / 2))).length) (g (h+1) (t / 2+1))).2=_
   rw [e1,List.take_left' rfl,ih (h+1) (t / 2) (by omega) (by rw [Nat.pow_succ] at ht; omega) (by rw [(step_num ho).2]; exact hm),(step_num ho).2]
  ·rw [carry_even ho,ol_even _ (by omega) ho]
theorem carry_new (c F:Nat) (g:Nat→Nat→ByteArray) (m:Nat) (hg : ∀ h t,2^h * (t+1)≤m→t % 2=1→dg c (nodeT (g h t) (g h (t+1)))=g (h+1) (t / 2+1)) : ∀ (f h t:Nat),h+f<F→t<2^f→2^h * t+2^h≤m →
  (carry c f t (ol g F (2^h * t)) (g h (t+1))).1=(List.range (Pl.trl f t+1)).map fun j=>g (h+j) (t / 2^j+1):=by
 intro f
 induction f with
 | zero =>
  intro h t hF ht hm
  obtain rfl:t=0:=by simpa using ht
  simp [carry,Pl.trl]
 | succ f ih =>
  intro h t hF ht hm
  by_cases ho:t % 2=1
  ·have e1:=ol_odd g (F:=F) (h:=h) (t:=t) (by omega) ho
   have e2:(ol g F (2^h * t)).length - 1=(ol g F (2^(h+1) * (t / 2))).length:=by rw [e1]; simp
   have hd:dg c (nodeT ((ol g F (2^h * t)).getD ((ol g F (2^h * t)).length - 1) ByteArray.empty) (g h (t+1)))=g (h+1) (t / 2+1):=by
    rw [e2,e1,← hg h t (by rw [Nat.mul_add,Nat.mul_one]; exact hm) ho]
    simp [List.getD_eq_getElem?_getD]
   rw [carry_odd ho hd,e2]
   show g h (t+1)::(carry c f (t / 2) ((ol g F (2^h * t)).take (ol g F (2^(h+1) * (t / 2))).length) (g (h+1) (t / 2+1))).1=_
   rw [e1,List.take_left' rfl,ih (h+1) (t / 2) (by omega) (by rw [Nat.pow_succ] at ht; omega) (by rw [(step_num ho).2]; exact hm),Pl.trl_step f t ho,List.range_succ_eq_map (n:=Pl.trl f (t / 2)+1),List.map_cons,List.map_map]
   simp only [Nat.pow_zero,Nat.div_one,Nat.add_zero]
   congr 1
   refine List.map_congr_left fun j _ => ?_
   simp only [Function.comp]
   rw [Nat.succ_eq_add_one,div_two,show h+1+j=h+(j+1) by omega]
  ·rw [carry_even ho,Pl.trl_none f t ho]
   simp
def er (k:Int) (n:Nat) (h:Int) (s:ByteArray):Nat :=
 if (s.size:Int)≠k then 90 else if h<0∨40<h∨n % 2^h.toNat≠0 then 41 else if 1099511627776<n+2^h.toNat then 30 else 0
def mk (c n:Nat) (P:List ByteArray) (h:Nat) (s:ByteArray):List ByteArray×List ByteArray:=carry c (40 - h) (n / 2^h) P s
def nxN (k:Int) (n:Nat) (h:Int) (s:ByteArray):Nat:=if er k n h s=0 then n+2^h.toNat else n
def nxP (k:Int) (n:Nat) (P:List ByteArray) (h:Int) (s:ByteArray):List ByteArray:=if er k n h s=0 then (mk (clk k) n P h.toNat s).2 else P
def an (k:Int) (n:Nat) (P:List ByteArray) (h:Int) (s:ByteArray):List ByteArray:=if er k n h s=0 then (mk (clk k) n P h.toNat s).1 else []
theorem clk_of {k:Int} (h1:1≤k) (h2:k≤32):(clk k:Int)=k:=by
 unfold clk
 rw [if_neg (by omega),if_neg (by omega)]
 omega
end Go.Proofs.YtoblgjledefdbaaGreatDoor
namespace Go.Proofs.YtoblgjledefdbaaGreatDoor
open Go.RowKit
attribute [local go_sem ↓] Go.wp_at_zero Go.wp_at_succ
theorem Tryz.infoS:(Tryz.prog.info? 9).map (fun i=>(i.zero,i.size,i.bytes))=some (some (.string ByteArray.empty),1,16):=by kernel_rfl
theorem rds_one (w:World) (s:ByteArray) (hs:s.size≤9223372036854775807):RdS (w.alloc (.cells #[.string s] 9)) (some ⟨w.heap.size,0,none⟩) w.heap.size 0 1 [s] :=
 ⟨rfl,fun _=>rfl,range_new w [.string s] 9,fun x hx=>by simp at hx; subst hx; exact hs⟩
def OwnS (w:World) (B:Nat) (v:Value) (ss:List ByteArray):Prop:=w.ownsRow B 9 1 v ss.length (ss.map Value.string)
theorem owns_rds {w:World} {B:Nat} {v:Value} {ss:List ByteArray} (h:OwnS w B v ss) (hs : ∀ s∈ss,s.size≤9223372036854775807) : ∃ ao b cap,v = .slice ao ss.length cap∧RdS w ao b 0 ss.length ss∧ss.length≤cap∧(ao=none→cap=0):=by
 obtain ⟨h1,h2⟩:=h
 rcases h2 with ⟨hv,h0⟩ | ⟨g,cap,cur,rfl,hg,hh,hc1,hc,hsz,ht⟩
 ·have:ss=[]:=List.length_eq_zero_iff.1 h0
  subst this
  exact ⟨none,0,0,by rw [hv]; rfl,⟨rfl,fun h=>absurd h (Nat.lt_irrefl 0),(fun j v h=>by cases h),hs⟩,Nat.le_refl _,fun _=>rfl⟩
 ·refine ⟨some ⟨g,0,none⟩,g,cap,rfl,⟨rfl,fun _=>rfl,fun j v hj => ?_,hs⟩,hc1,fun h=>by cases h⟩
  rw [Nat.zero_add,cell_of_row w g j cur 9 (0,0) hh]
  rw [← ht,List.getElem?_take] at hj
  split at hj
  ·simpa using hj
  ·cases hj
theorem wpList_append_S (w:World) {ops:Array Oper} {rest:List Oper} {o:Oper} {a:Act} {Q:Exit→Act→World→Prop}
  (hg:o.guard=none) (s x:Operand) (hop:o.op=Op.call { callee:=Callee.builtin Builtin.append,args:=#[s,x],argTypes:=#[22,22] })
  (B:Nat) (v:Value) (L:List ByteArray) (hs:a.eval s=v) (hown:OwnS w B v L) (ao:Option Addr) (b off cap:Nat) (M:List ByteArray) (hx:a.eval x = .slice ao M.length cap) (hr:RdS w ao b off M.length M) (hn:ao=none→cap=0)
  (hlen:L.length+M.length≤8796093022208) (hB:B≤w.heap.size)
  (hK : ∀ v' w',OwnS w' B v' (L++M)→Below B w w'→wpList Tryz.prog ops Q rest (a.put o.dst v') w'):wpList Tryz.prog ops Q (o::rest) a w:=by
 obtain ⟨i0,hi,hz0,hz1,hz2⟩:=info_parts Tryz.infoS
 have hlt : ∀ k,v.ownBlock=some k→B≤k:=by
  obtain ⟨_,h2⟩:=hown
  rcases h2 with ⟨rfl,_⟩ | ⟨g,cp,cur,rfl,hg,_⟩
  ·intro k hk; cases hk
  ·intro k hk; cases hk; exact hg
 cases ao with
 | none =>
  obtain rfl:=hn rfl
  have hM:M=[]:=by
   cases M with
   | nil=>rfl
   | cons m r=>exact absurd (hr.ptr (by simp)) (by simp)
  subst hM
  refine wpList_append_own_none hg s x _ hop B 9 i0 1 Tryz.underlying22 hi _ _ _ hs hown hx (hK _ w ?_ (Below.refl _ _))
  rw [List.append_nil]; exact hown
 | some ad =>
  have hnews : ∀ j u,(M.map Value.string)[j]? = some u→w.cell? (ad.add j)=some u:=fun j u hu=>by
   have hj:j<M.length:=by have:=(List.getElem?_eq_some_iff.1 hu).1; rwa [List.length_map] at this
   have:=Option.some.inj (hr.ptr (by omega))
   subst this
   rw [Addr.add_mid]; exact hr.rng j u hu
  refine wpList_append_own w hg s x _ hop B 9 i0 (.string ByteArray.empty) 1 16 Tryz.underlying22 hi hz0 hz1 hz2 rfl (by decide) _ _ _ hs hown ad M.length cap (M.map Value.string) hx (by simp) hnews (by intro u hu; obtain ⟨y,_,rfl⟩:=List.mem_map.1 hu; rfl) (by unfold maxLen; omega) (by omega) hB ?_
  intro v' w' h1 h2 _
  refine hK v' w' ?_ ((Below.refl _ _).grown h2 hB hlt)
  rw [OwnS,List.length_append,List.map_append]; exact h1
theorem own_al {w:World} {B:Nat} {v:Value} {l:List ByteArray} (h:OwnS w B v l) (o:Obj):OwnS (w.alloc o) B v l:=by
 obtain ⟨h1,h2⟩:=h
 refine ⟨h1,?_⟩
 rcases h2 with h2 | ⟨g,cap,cur,rfl,hg,hh,r⟩
 ·exact .inl h2
 ·exact .inr ⟨g,cap,cur,rfl,hg,by rw [Below.heap_alloc _ _ _ (Array.getElem?_eq_some_iff.1 hh).1]; exact hh,r⟩
theorem own_next {w W:World} {B B':Nat} {v:Value} {l:List ByteArray} (h:OwnS w B v l) (hb:Below B' w W) (hB:w.heap.size≤B'):OwnS W B v l:=by
 obtain ⟨h1,h2⟩:=h
 refine ⟨h1,?_⟩
 rcases h2 with h2 | ⟨g,cap,cur,rfl,hg,hh,r⟩
 ·exact .inl h2
 ·exact .inr ⟨g,cap,cur,rfl,hg,by rw [hb.block g (Nat.lt_of_lt_of_le (Array.getElem?_eq_some_iff.1 hh).1 hB)]; exact hh,r⟩
theorem own_form {w:World} {B:Nat} {v:Value} {l:List ByteArray} (h:OwnS w B v l) (h0:0<l.length) : ∃ g cap,v = .slice (some ⟨g,0,none⟩) l.length cap∧B≤g∧l.length≤cap∧cap≤maxLen:=by
 obtain ⟨h1,h2⟩:=h
 rcases h2 with ⟨_,h2⟩ | ⟨g,cap,cur,hv,hg,_,hc,hm,_⟩
 ·omega
 ·exact ⟨g,cap,hv,hg,hc,hm⟩
theorem owns_nil (w:World) (B:Nat):OwnS w B (.slice none 0 0) []:=⟨rfl,.inl ⟨rfl,rfl⟩⟩
end Go.Proofs.YtoblgjledefdbaaGreatDoor
namespace Go.Proofs.YtoblgjledefdbaaGreatDoor.Pl
open Go.RowKit
attribute [local go_sem ↓] Go.wp_at_zero Go.wp_at_succ
theorem bit_eq (n k:Nat) (hn:n<2^64):(bits BinOp.and IntKind.u64 ((n:Int) / 2^k) 1 == 1)=decide (n / 2^k % 2=1):=by
 have e:((n:Int) / 2^k)=((n / 2^k:Nat):Int):=by simp
 rw [e]
 have hm:n / 2^k<18446744073709551616:=Nat.lt_of_le_of_lt (Nat.div_le_self _ _) hn
 revert hm
 generalize n / 2^k=m
 intro hm
 have:=bits_and_u64_nat m 1 hm (by decide)
 rw [show (1:Int)=((1:Nat):Int) from rfl,this,Nat.and_one_is_mod]
 by_cases h:m % 2=1
 ·simp [h]
 ·have:m % 2=0:=by omega
  simp [this]
theorem isOne_any (n k:Nat) (w:World) (hn:n<2^64) (hk:k<64) :
  Calls Tryz.prog 224 #[.int .u64 n,.int .i64 k] w fun e w'=>e = .returned (.bool (decide (n / 2^k % 2=1)))∧w'=w:=by
 have hk0:(0:Int)≤(k:Int):=Int.natCast_nonneg _
 go_enter Tryz.func224,Tryz.ntmps224
 go_wp2
 go_ret
 refine ⟨?_,rfl⟩
 rw [← bit_eq n k hn]
 rfl
theorem ones_any (n:Nat) (w:World) (hn:n<2^64) :
  Calls Tryz.prog 138 #[.int .u64 n] w fun e w'=>e = .returned (.int .i64 (ones 64 n:Nat))∧w'=w:=by
 go_enter Tryz.func138,Tryz.ntmps138
 go_wp2
 go_loopg [3,5] 64 (fun g c i wr => ∃ k m:Nat,k≤64∧g=64 - k∧i = .int .i64 k∧c = .int .i64 m∧m≤k∧m+ones (64 - k) (n / 2^k)=ones 64 n∧w=wr)
 case atStart =>
  go_light
  exact ⟨0,0,Nat.zero_le _,rfl,rfl,rfl,Nat.zero_le _,by simp,rfl⟩
 case round =>
  obtain ⟨k,m,hk,rfl,rfl,rfl,hm,hs,rfl⟩:=hrel
  have hk0:(0:Int)≤(k:Int):=Int.natCast_nonneg _
  have hm0:(0:Int)≤(m:Int):=Int.natCast_nonneg _
  have hm1:(m:Int)≤64:=by omega
  by_cases hlt:k<64
  ·have hk8:(k:Int)<64:=by omega
   have HS:=ones_step k n hlt
   have HC:=isOne_any n k w hn hlt
   by_cases hb:n / 2^k % 2=1
   ·rw [decide_eq_true hb] at HC
    go_wp2_with (go_at_call 224; refine HC.mono ?_; rintro e w' ⟨rfl,rfl⟩)
    go_roundg (64 - (k+1))
    case rel =>
     go_light
     exact ⟨k+1,m+1,by omega,rfl,by go_num,by go_num,by omega,by omega,rfl⟩
    case measure=>go_light; omega
   ·rw [decide_eq_false hb] at HC
    go_wp2_with (go_at_call 224; refine HC.mono ?_; rintro e w' ⟨rfl,rfl⟩)
    go_roundg (64 - (k+1))
    case rel =>
     go_light
     exact ⟨k+1,m,by omega,rfl,by go_num,rfl,by omega,by omega,rfl⟩
    case measure=>go_light; omega
  ·obtain rfl:k=64:=by omega
   clear hk hlt
   go_wp2
   go_ret
   refine ⟨?_,rfl⟩
   rw [← hs]
   rfl
end Go.Proofs.YtoblgjledefdbaaGreatDoor.Pl
