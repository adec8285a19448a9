/- Own work. -/
import Derived.Test.YtoblgjledefdbaaGreatDoorProg
import Derived.WalkKit
import Derived.WalkSpells
import Derived.Outline
import Derived.KernelRfl
import Derived.Maps.Keyed
import Derived.DeepKeys4
import Derived.Test.YtoblgjledefdbaaGreatDoorQf04
namespace Go.Proofs.YtoblgjledefdbaaGreatDoor.Kp
open Go.RowKit
open Pl (ones)
attribute [local go_sem ↓] Go.wp_at_zero Go.wp_at_succ
theorem Did.none {w w':World} {p:Nat} {v:Value} {k:Int} {n:Nat} {P:List ByteArray} (hr:Rg w p v k n P) (hb:Below w.heap.size w w'):Did w w' p v k n P (.slice none 0 0) [] v :=
 ⟨hr.next hb (Nat.le_refl _),owns_nil _ _,Ch.of hb hr.lt,.inl rfl,fun g h _=>by cases h⟩
theorem er_zero {k:Int} {n:Nat} {h:Int} {s:ByteArray} (h1:(s.size:Int)=k) (h2:0≤h) (h3:h≤40) (h4:n % 2^h.toNat=0) (h5:n+2^h.toNat≤1099511627776):er k n h s=0:=by
 rw [er,if_neg (by omega),if_neg (by omega),if_neg (by omega)]
set_option maxRecDepth 100000 in
theorem add_any (w:World) (ht:Tb w) (p:Nat) (v:Value) (k:Int) (n:Nat) (P:List ByteArray) (hr:Rg w p v k n P) (s:ByteArray) (e0 n':Nat) (P' A:List ByteArray) (he:Hid (er k n 0 s=e0∧nxN k n 0 s=n'∧nxP k n P 0 s=P'∧an k n P 0 s=A)) :
  Calls Tryz.prog 161 #[.pointer (some ⟨p,0,none⟩),.string s] w fun e w' => ∃ vm v',e = .returned (.tuple #[vm,.int .i64 (e0:Int)])∧Did w w' p v k n' P' vm A v':=by
 obtain ⟨q1,q2,q3,q4⟩:=he.out
 have c0:=hr.c0
 have c1:=hr.c1
 by_cases hs:(s.size:Int)=k
 ·by_cases hn:n<1099511627776
  ·have e00:er k n 0 s=0:=er_zero hs (by decide) (by decide) (by show n % 1=0; omega) (by show n+1≤_; omega)
   rw [e00] at q1
   rw [nxN,if_pos e00] at q2
   rw [nxP,if_pos e00] at q3
   rw [an,if_pos e00] at q4
   have hcl:=clk_of hr.k1 hr.k2
   have HL:Hid (Calls Tryz.prog 251 #[.pointer (some ⟨p,0,none⟩),.int .i64 0,.string s] w fun e w' => ∃ vm v',e = .returned vm∧Did w w' p v k n' P' vm A v') :=
    lay_any w ht p v k n P hr 0 (by decide) s (by omega) (by show n % 1=0; omega) n' q2 (by rw [← q2]; show n+1≤_; omega) A P' (by show mk (clk k) n P 0 s=(A,P'); rw [← q3,← q4]; rfl)
   have hn':decide ((1099511627776:Int)≤(n:Int))=false:=by simp; omega
   subst q1
   subst hs
   clear he e00 q2 q3 q4 hcl ht hr hn
   go_enter Tryz.func161,Tryz.ntmps161
   go_wp2_with (go_at_call 251; with_reducible refine HL.out.mono ?_; rintro e w1 ⟨vm,v',rfl,hd⟩)
   go_ret2
   exact ⟨vm,v',rfl,hd⟩
  ·have hn40:=hr.hn
   have e00:er k n 0 s=30:=by rw [er,if_neg (by omega),if_neg (by rw [show (0:Int).toNat=0 from rfl,Nat.pow_zero]; omega),if_pos (by rw [show (0:Int).toNat=0 from rfl,Nat.pow_zero]; omega)]
   rw [e00] at q1
   rw [nxN,if_neg (by rw [e00]; decide)] at q2
   rw [nxP,if_neg (by rw [e00]; decide)] at q3
   rw [an,if_neg (by rw [e00]; decide)] at q4
   have hn':decide ((1099511627776:Int)≤(n:Int))=true:=by simp; omega
   have HR:=hide hr
   subst q1 q2 q3 q4
   subst hs
   clear he e00 ht hr hn hn40
   go_enter Tryz.func161,Tryz.ntmps161
   go_wp2
   go_ret2
   exact ⟨_,v,rfl,Did.none HR.out (Below.refl _ _)⟩
 ·have e00:er k n 0 s=90:=by rw [er,if_pos (by omega)]
  rw [e00] at q1
  rw [nxN,if_neg (by rw [e00]; decide)] at q2
  rw [nxP,if_neg (by rw [e00]; decide)] at q3
  rw [an,if_neg (by rw [e00]; decide)] at q4
  have HR:=hide hr
  subst q1 q2 q3 q4
  clear he e00 ht hr
  go_enter Tryz.func161,Tryz.ntmps161
  go_wp2
  go_ret2
  exact ⟨_,v,rfl,Did.none HR.out (Below.refl _ _)⟩
end Go.Proofs.YtoblgjledefdbaaGreatDoor.Kp
namespace Go.Proofs.YtoblgjledefdbaaGreatDoor
open Go.RowKit
def nd (c:Nat) (L:List ByteArray):Nat→Nat→ByteArray
 | 0,i=>dg c (leafT (L.getD i ByteArray.empty))
 | h+1,i=>dg c (nodeT (nd c L h (2 * i)) (nd c L h (2 * i+1)))
theorem nd_size {c:Nat} (hc:c≤32) (L:List ByteArray) (h i:Nat):(nd c L h i).size=c:=by
 cases h with
 | zero=>rw [nd,dg_size hc]
 | succ h=>rw [nd,dg_size hc]
theorem nd_alike {c:Nat} {L M:List ByteArray} : ∀ (h i j:Nat),(∀ t,t<2^h→L.getD (i * 2^h+t) ByteArray.empty=M.getD (j * 2^h+t) ByteArray.empty)→nd c L h i=nd c M h j
 | 0,i,j,e=>by
  have:=e 0 (by decide)
  simp only [Nat.pow_zero,Nat.mul_one,Nat.add_zero] at this
  rw [nd,nd,this]
 | h+1,i,j,e=>by
  have p:2^(h+1)=2 * 2^h:=by rw [Nat.pow_succ]; omega
  rw [nd,nd,nd_alike h (2 * i) (2 * j),nd_alike h (2 * i+1) (2 * j+1)]
  ·intro t ht
   have:=e (2^h+t) (by omega)
   rw [p] at this
   rw [show (2 * i+1) * 2^h+t=i * (2 * 2^h)+(2^h+t) by rw [Nat.add_mul,Nat.mul_assoc,Nat.mul_left_comm]; omega,show (2 * j+1) * 2^h+t=j * (2 * 2^h)+(2^h+t) by rw [Nat.add_mul,Nat.mul_assoc,Nat.mul_left_comm]; omega]
   exact this
  ·intro t ht
   have:=e t (by omega)
   rw [p] at this
   rw [show 2 * i * 2^h+t=i * (2 * 2^h)+t by rw [Nat.mul_assoc,Nat.mul_left_comm],show 2 * j * 2^h+t=j * (2 * 2^h)+t by rw [Nat.mul_assoc,Nat.mul_left_comm]]
   exact this
def pks (c:Nat) (L:List ByteArray):Nat→List ByteArray
 | 0=>[]
 | h+1=>(if L.length / 2^h % 2=1 then [nd c L h (L.length / 2^h - 1)] else [])++pks c L h
end Go.Proofs.YtoblgjledefdbaaGreatDoor
namespace Go.Proofs.YtoblgjledefdbaaGreatDoor.Kp
open Go.RowKit
theorem getD_first (L M:List ByteArray) (n t:Nat) (hn:n≤L.length) (h:t<n):(L.take n).getD t ByteArray.empty=(L++M).getD t ByteArray.empty:=by
 rw [List.getD_eq_getElem?_getD,List.getD_eq_getElem?_getD,List.getElem?_take_of_lt h,List.getElem?_append_left (by omega)]
def gN (c:Nat) (L:List ByteArray) (h x:Nat):ByteArray:=nd c L h (x - 1)
theorem nd_take (c:Nat) (L:List ByteArray) (m h i:Nat) (hm:m≤L.length) (hi:(i+1) * 2^h≤m):nd c (L.take m) h i=nd c L h i:=by
 refine nd_alike h i i fun t ht => ?_
 have hlt:i * 2^h+t<m:=by rw [Nat.add_mul] at hi; omega
 have:=getD_first L [] m (i * 2^h+t) hm hlt
 rwa [List.append_nil] at this
theorem pks_ol (c:Nat) (L:List ByteArray) (m:Nat) (hm:m≤L.length) : ∀ F,pks c (L.take m) F=ol (gN c L) F m
 | 0=>rfl
 | F+1=>by
  have hl:(L.take m).length=m:=by rw [List.length_take]; omega
  rw [pks,ol,pks_ol c L m hm F,hl]
  by_cases e:m / 2^F % 2=1
  ·rw [if_pos e,if_pos e,gN,nd_take c L m F _ hm]
   have h1:1≤m / 2^F:=by generalize m / 2^F=x at *; omega
   rw [show m / 2^F - 1+1=m / 2^F by omega]
   exact Nat.div_mul_le_self _ _
  ·rw [if_neg e,if_neg e]
theorem gN_node (c:Nat) (L:List ByteArray) (h t:Nat) (ho:t % 2=1):dg c (nodeT (gN c L h t) (gN c L h (t+1)))=gN c L (h+1) (t / 2+1):=by
 obtain ⟨q,rfl⟩ : ∃ q,t=2 * q+1:=⟨t / 2,by omega⟩
 rw [gN,gN,gN,show (2 * q+1) / 2+1 - 1=q by omega,nd,show 2 * q+1 - 1=2 * q by omega,show 2 * q+1+1 - 1=2 * q+1 by omega]
theorem mk_list (c:Nat) (L:List ByteArray) (h t m:Nat) (hm:m=2^h * t) (hh:h≤40) (hl:m+2^h≤1099511627776) :
  mk c m (ol (gN c L) 41 m) h (nd c L h t)=((List.range (Pl.trl (40 - h) t+1)).map (fun j=>nd c L (h+j) (t / 2^j)),ol (gN c L) 41 (m+2^h)):=by
 have ht:t<2^(40 - h):=by
  have h1:2^h * (t+1)≤2^h * 2^(40 - h):=by
   rw [← Nat.pow_add,show h+(40 - h)=40 by omega,Nat.mul_add,Nat.mul_one,← hm]; exact hl
  exact Nat.le_of_mul_le_mul_left h1 (Nat.two_pow_pos h)
 have e0:nd c L h t=gN c L h (t+1):=by rw [gN,Nat.add_sub_cancel]
 have a:=carry_new c 41 (gN c L) (m+2^h) (fun h t _ ho=>gN_node c L h t ho) (40 - h) h t (by omega) ht (by omega)
 have b:=carry_ol c 41 (gN c L) (m+2^h) (fun h t _ ho=>gN_node c L h t ho) (40 - h) h t (by omega) ht (by omega)
 rw [← hm] at a b
 rw [mk,show m / 2^h=t by rw [hm]; exact (pow_num h t).2,e0]
 refine Prod.ext ?_ b
 rw [a]
 refine List.map_congr_left fun j _ => ?_
 rw [gN,Nat.add_sub_cancel]
theorem er_list {K:Int} (k1:1≤K) (k2:K≤32) (M:List ByteArray) (h t m:Nat) (hm:m=2^h * t) (hh:h≤40) (hl:m+2^h≤1099511627776):er K m (h:Int) (nd (clk K) M h t)=0:=by
 have hc:=clk_of k1 k2
 refine er_zero (by rw [nd_size (clk_le K)]; exact hc) (by omega) (by omega) ?_ ?_
 ·rw [Int.toNat_natCast,hm]; exact (pow_num h t).1
 ·rw [Int.toNat_natCast]; exact hl
theorem did_list {K:Int} (k1:1≤K) (k2:K≤32) (M:List ByteArray) (h t m:Nat) (hm:m=2^h * t) (hh:h≤40) (hl:m+2^h≤1099511627776) :
  Hid (er K m (h:Int) (nd (clk K) M h t)=0∧nxN K m (h:Int) (nd (clk K) M h t)=m+2^h∧nxP K m (ol (gN (clk K) M) 41 m) (h:Int) (nd (clk K) M h t)=ol (gN (clk K) M) 41 (m+2^h) ∧
   an K m (ol (gN (clk K) M) 41 m) (h:Int) (nd (clk K) M h t)=(List.range (Pl.trl (40 - h) t+1)).map (fun j=>nd (clk K) M (h+j) (t / 2^j))):=by
 have e:=er_list k1 k2 M h t m hm hh hl
 have q:=mk_list (clk K) M h t m hm hh hl
 refine ⟨e,?_,?_,?_⟩
 ·rw [nxN,if_pos e,Int.toNat_natCast]
 ·rw [nxP,if_pos e,Int.toNat_natCast,q]
 ·rw [an,if_pos e,Int.toNat_natCast,q]
end Go.Proofs.YtoblgjledefdbaaGreatDoor.Kp
namespace Go.Proofs.YtoblgjledefdbaaGreatDoor.Cv
open Pl
def dnL:Nat→Nat→Nat→List (Nat×Nat)
 | 0,_,_=>[]
 | h+1,lo,hi=>if pw h≤hi - lo then (h,lo / pw h)::dnL h (lo+pw h) hi else dnL h lo hi
def upL:Nat→Nat→Nat→Nat→List (Nat×Nat)
 | 0,_,_,_=>[]
 | f+1,h,lo,hi=>if pw h≤hi - lo then (if lo / pw h % 2=1 then (h,lo / pw h)::upL f (h+1) (lo+pw h) hi else upL f (h+1) lo hi) else dnL (h+1) lo hi
def cov (lo hi:Nat):List (Nat×Nat):=upL 42 0 lo hi
def rst:Nat→Nat→List Nat→List (Nat×Nat)
 | x,n,[]=>cov x n
 | x,n,i::S=>cov x i++rst (i+1) n S
def All (A:Nat→Prop) (h k:Nat):Prop := ∀ i,k * pw h≤i→i<(k+1) * pw h→A i
def Til (A:Nat→Prop) (q:Nat):Nat→List (Nat×Nat)→Prop
 | p,[]=>p≤q ∧ ∀ i,p≤i→i<q → ¬ A i
 | p,b::L=>p≤b.2 * pw b.1∧(b.2+1) * pw b.1≤q∧(∀ i,p≤i→i<b.2 * pw b.1 → ¬ A i)∧All A b.1 b.2 ∧ ¬ All A (b.1+1) (b.2 / 2)∧Til A q ((b.2+1) * pw b.1) L
theorem blk_lt (h k:Nat):k * pw h<(k+1) * pw h:=by
 have:=pw_pos h; rw [Nat.add_mul,Nat.one_mul]; omega
theorem in_greater (A:Nat→Prop) (h k h' k':Nat) (he:k * pw h=k' * pw h') (hl:h<h') (ha:All A h' k'):All A (h+1) (k / 2):=by
 obtain ⟨d,rfl⟩ : ∃ d,h'=h+1+d:=⟨h' - (h+1),by omega⟩
 have e1:pw (h+1+d)=2 * pw d * pw h:=by rw [pw_add,pw_succ,Nat.mul_comm (2 * pw h),← Nat.mul_assoc,Nat.mul_comm (pw d)]
 have hp:=pw_pos h
 have hd:=pw_pos d
 have hk:k=k' * (2 * pw d):=by
  rw [e1,← Nat.mul_assoc] at he
  exact Nat.eq_of_mul_eq_mul_right hp he
 have hk2:k / 2=k' * pw d:=by
  rw [hk,show k' * (2 * pw d)=k' * pw d * 2 by rw [Nat.mul_comm 2,Nat.mul_assoc]]
  exact Nat.mul_div_cancel _ (by decide)
 intro i h1 h2
 have e2:pw (h+1+d)=pw d * pw (h+1):=by rw [pw_add,Nat.mul_comm]
 refine ha i ?_ ?_
 ·rw [e2,← Nat.mul_assoc,← hk2]; exact h1
 ·refine Nat.lt_of_lt_of_le h2 ?_
  rw [e2,← Nat.mul_assoc,hk2]
  refine Nat.mul_le_mul_right _ ?_
  rw [Nat.add_mul]; omega
theorem til_le {A:Nat→Prop} {q p:Nat} {L:List (Nat×Nat)} (h:Til A q p L):p≤q:=by
 cases L with
 | nil=>exact h.1
 | cons b L=>have:=blk_lt b.1 b.2; have h1:=h.1; have h2:=h.2.1; omega
theorem til_one {A:Nat→Prop} {q:Nat} : ∀ {L L':List (Nat×Nat)} {p:Nat},Til A q p L→Til A q p L'→L=L':=by
 intro L
 induction L with
 | nil =>
  intro L' p h h'
  cases L' with
  | nil=>rfl
  | cons b L' =>
   obtain ⟨a1,a2,a3,a4,a5,a6⟩:=h'
   have:=blk_lt b.1 b.2
   exact absurd (a4 _ (Nat.le_refl _) this) (h.2 _ a1 (by omega))
 | cons c L ih =>
  intro L' p h h'
  cases L' with
  | nil =>
   obtain ⟨a1,a2,a3,a4,a5,a6⟩:=h
   have:=blk_lt c.1 c.2
   exact absurd (a4 _ (Nat.le_refl _) this) (h'.2 _ a1 (by omega))
  | cons b L' =>
   obtain ⟨a1,a2,a3,a4,a5,a6⟩:=h
   obtain ⟨b1,b2,b3,b4,b5,b6⟩:=h'
   obtain ⟨h,k⟩:=c
   obtain ⟨h',k'⟩:=b
   simp only at *
   have x1:=blk_lt h k
   have x2:=blk_lt h' k'
   have he:k * pw h=k' * pw h':=by
    rcases Nat.lt_trichotomy (k * pw h) (k' * pw h') with hh | hh | hh
    ·exact absurd (a4 _ (Nat.le_refl _) x1) (b3 _ a1 hh)
    ·exact hh
    ·exact absurd (b4 _ (Nat.le_refl _) x2) (a3 _ b1 hh)
   have hh:h=h':=by
    rcases Nat.lt_trichotomy h h' with hh | hh | hh
    ·exact absurd (in_greater A h k h' k' he hh b4) a5
    ·exact hh
    ·exact absurd (in_greater A h' k' h k he.symm hh a4) b5
   subst hh
   have hk:k=k':=Nat.eq_of_mul_eq_mul_right (pw_pos h) he
   subst hk
   rw [ih a6 b6]
theorem til_pre {A:Nat→Prop} {q p p':Nat} {L:List (Nat×Nat)} (h:Til A q p' L) (hp:p≤p') (hn : ∀ i,p≤i→i<p' → ¬ A i):Til A q p L:=by
 cases L with
 | nil=>exact ⟨Nat.le_trans hp h.1,fun i h1 h2=>if hi:i<p' then hn i h1 hi else h.2 i (by omega) h2⟩
 | cons b L=>exact ⟨Nat.le_trans hp h.1,h.2.1,fun i h1 h2=>if hi:i<p' then hn i h1 hi else h.2.2.1 i (by omega) h2,h.2.2.2⟩
theorem til_app {A:Nat→Prop} {q m:Nat} {L':List (Nat×Nat)} (h':Til A q m L') : ∀ {L:List (Nat×Nat)} {p:Nat},Til A m p L→Til A q p (L++L'):=by
 intro L
 induction L with
 | nil=>intro p h; exact til_pre h' h.1 h.2
 | cons b L ih =>
  intro p h
  have:=til_le h'
  exact ⟨h.1,Nat.le_trans h.2.1 this,h.2.2.1,h.2.2.2.1,h.2.2.2.2.1,ih h.2.2.2.2.2⟩
abbrev Rg (lo hi:Nat):Nat→Prop:=fun i=>lo≤i∧i<hi
theorem mul_half (c h:Nat):c * pw (h+1)=2 * c * pw h:=by rw [pw_succ,← Nat.mul_assoc,Nat.mul_comm c]
theorem dn_til (lo0 hi:Nat) : ∀ h lo,(∃ c,lo=c * pw h)→hi - lo<pw h→lo0≤lo→lo≤hi→Til (Rg lo0 hi) hi lo (dnL h lo hi):=by
 intro h
 induction h with
 | zero =>
  intro lo _ h2 h3 h4
  rw [pw_zero] at h2
  exact ⟨h4,fun i h5 h6 _=>by omega⟩
 | succ h ih =>
  intro lo h1 h2 h3 h4
  obtain ⟨c,hc⟩:=h1
  have hp:=pw_pos h
  have hps:=pw_succ h
  rw [mul_half] at hc
  rw [dnL]
  split
  ·rename_i hfit
   have hk:lo / pw h=2 * c:=by rw [hc]; exact Nat.mul_div_cancel _ hp
   have e1:(2 * c+1) * pw h=lo+pw h:=by rw [Nat.add_mul,Nat.one_mul,← hc]
   have e2:2 * c / 2=c:=by omega
   have e3:c * pw (h+1)=lo:=by rw [mul_half]; exact hc.symm
   rw [hk]
   refine ⟨by show lo≤2 * c * pw h; omega,by show (2 * c+1) * pw h≤hi; omega,fun i i1 i2=>by dsimp only at i2; omega,fun i i1 i2 => ?_,fun hall => ?_,?_⟩
   ·dsimp only at i1 i2; exact ⟨by omega,by omega⟩
   ·dsimp only at hall
    rw [e2] at hall
    have:=hall hi (by omega) (by rw [Nat.add_mul,Nat.one_mul,e3]; omega)
    exact absurd this.2 (Nat.lt_irrefl _)
   ·dsimp only
    rw [e1]
    exact ih (lo+pw h) ⟨2 * c+1,e1.symm⟩ (by omega) (by omega) (by omega)
  ·exact ih lo ⟨2 * c,hc⟩ (by omega) h3 h4
theorem pw40 {h:Nat} (hh:pw h≤2^40):h≤40:=by
 by_cases h1:h≤40
 ·exact h1
 ·have h2:pw 41≤pw h:=pw_le (by omega)
  have h3:pw 41=2^41:=rfl
  omega
theorem dn_skip {lo hi h:Nat} (hl:hi - lo<pw h):dnL (h+1) lo hi=dnL h lo hi:=by
 rw [dnL,if_neg (by omega)]
theorem up_til (lo0 hi:Nat) (hhi:hi≤2^40) : ∀ f h lo,f+h=42→h≤41→(∃ c,lo=c * pw h)→lo0≤lo→lo<lo0+pw h→lo≤hi→Til (Rg lo0 hi) hi lo (upL f h lo hi):=by
 intro f
 induction f with
 | zero=>intro h lo h1 h2; omega
 | succ f ih =>
  intro h lo h1 h2 h3 h4 h5 h6
  obtain ⟨c,hc⟩:=h3
  have hp:=pw_pos h
  have hps:=pw_succ h
  rw [upL]
  split
  ·rename_i hfit
   have hh:h≤40:=pw40 (by omega)
   have hk:lo / pw h=c:=by rw [hc]; exact Nat.mul_div_cancel _ hp
   rw [hk]
   have e1:(c+1) * pw h=lo+pw h:=by rw [Nat.add_mul,Nat.one_mul,← hc]
   split
   ·rename_i hodd
    have e2:c / 2 * pw (h+1)+pw h=lo:=by
     rw [mul_half,hc]
     have:c=2 * (c / 2)+1:=by omega
     conv=>rhs; rw [this,Nat.add_mul,Nat.one_mul]
    have e3:(c+1) / 2 * pw (h+1)=lo+pw h:=by
     rw [mul_half,← e1]
     have:c+1=2 * ((c+1) / 2):=by omega
     conv=>rhs; rw [this]
    refine ⟨by show lo≤c * pw h; omega,by show (c+1) * pw h≤hi; omega,fun i i1 i2=>by dsimp only at i2; omega,fun i i1 i2 => ?_,fun hall => ?_,?_⟩
    ·dsimp only at i1 i2; exact ⟨by omega,by omega⟩
    ·dsimp only at hall
     have:=hall _ (Nat.le_refl _) (blk_lt _ _)
     have:=this.1
     omega
    ·dsimp only
     rw [e1]
     exact ih (h+1) (lo+pw h) (by omega) (by omega) ⟨_,e3.symm⟩ (by omega) (by omega) (by omega)
   ·rename_i hev
    refine ih (h+1) lo (by omega) (by omega) ⟨c / 2,?_⟩ h4 (by omega) h6
    rw [mul_half,hc]
    have:c=2 * (c / 2):=by omega
    conv=>lhs; rw [this]
  ·rename_i hno
   rw [dn_skip (by omega)]
   exact dn_til lo0 hi h lo ⟨c,hc⟩ (by omega) h4 h6
theorem cov_til (lo hi:Nat) (h:lo≤hi) (hhi:hi≤2^40):Til (Rg lo hi) hi lo (cov lo hi) :=
 up_til lo hi hhi 42 0 lo rfl (by decide) ⟨lo,by simp [pw]⟩ (Nat.le_refl _) (by rw [pw_zero]; omega) h
theorem dn_len : ∀ h lo hi,(dnL h lo hi).length≤h:=by
 intro h
 induction h with
 | zero=>intro lo hi; exact Nat.le_refl _
 | succ h ih =>
  intro lo hi
  rw [dnL]
  split
  ·have:=ih (lo+pw h) hi; simp; omega
  ·have:=ih lo hi; omega
theorem up_len (hi:Nat) (hhi:hi≤2^40) : ∀ f h lo,f+h=42→h≤40→lo≤hi→(upL f h lo hi).length≤80 - h:=by
 intro f
 induction f with
 | zero=>intro h lo h1 h2; omega
 | succ f ih =>
  intro h lo h1 h2 h3
  by_cases h40:h=40
  ·subst h40
   obtain rfl:f=1:=by omega
   by_cases hfit:pw 40≤hi - lo
   ·have e:pw 40=2^40:=rfl
    obtain rfl:lo=0:=by omega
    obtain rfl:hi=2^40:=by omega
    decide
   ·rw [upL,if_neg hfit,dn_skip (by omega)]
    have:=dn_len 40 lo hi
    omega
  ·rw [upL]
   split
   ·split
    ·have:=ih (h+1) (lo+pw h) (by omega) (by omega) (by omega)
     simp; omega
    ·have:=ih (h+1) lo (by omega) (by omega) h3
     omega
   ·rw [dn_skip (by omega)]
    have:=dn_len h lo hi
    omega
theorem cov_len (lo hi:Nat) (h:lo≤hi) (hhi:hi≤2^40):(cov lo hi).length≤80:=up_len hi hhi 42 0 lo rfl (by decide) h
theorem dn_more {lo hi h:Nat} (hl:hi - lo<pw h) : ∀ d,dnL (h+d) lo hi=dnL h lo hi:=by
 intro d
 induction d with
 | zero=>rfl
 | succ d ih =>
  have:pw h≤pw (h+d):=pw_le (by omega)
  rw [← Nat.add_assoc,dn_skip (by omega),ih]
theorem up_zero (n:Nat) (hn:n≤2^40) : ∀ f h,f+h=42→h≤41→upL f h 0 n=dnL 41 0 n:=by
 intro f
 induction f with
 | zero=>intro h h1 h2; omega
 | succ f ih =>
  intro h h1 h2
  rw [upL]
  split
  ·rename_i hfit
   have:=pw40 (h:=h) (by omega)
   rw [Nat.zero_div,if_neg (by decide)]
   exact ih (h+1) (by omega) (by omega)
  ·rename_i hno
   rw [dn_skip (by omega),show 41=h+(41 - h) by omega,dn_more (by omega)]
theorem cov_zero (n:Nat) (hn:n≤2^40):cov 0 n=dnL 41 0 n:=up_zero n hn 42 0 rfl (by decide)
theorem ones_top : ∀ h d,d<pw (h+1)→ones (h+1) d=d / pw h+ones h (d % pw h):=by
 intro h
 induction h with
 | zero=>intro d hd; simp [ones,pw] at *; omega
 | succ h ih =>
  intro d hd
  have e1:d % pw (h+1)=d % 2+2 * (d / 2 % pw h):=by rw [pw_succ,Nat.mod_mul]
  have e2:d / pw (h+1)=d / 2 / pw h:=by rw [pw_succ,Nat.div_div_eq_div_mul]
  rw [ones,ih (d / 2) (by rw [pw_succ] at hd; omega),e1,e2,ones]
  have e3:(d % 2+2 * (d / 2 % pw h)) % 2=d % 2:=by omega
  have e4:(d % 2+2 * (d / 2 % pw h)) / 2=d / 2 % pw h:=by omega
  rw [e3,e4]; omega
theorem dn_ones : ∀ h lo hi,hi - lo<pw h→(dnL h lo hi).length=ones h (hi - lo):=by
 intro h
 induction h with
 | zero=>intro lo hi _; rfl
 | succ h ih =>
  intro lo hi hl
  have hp:=pw_pos h
  have hps:=pw_succ h
  rw [ones_top h _ hl,dnL]
  split
  ·rename_i hfit
   have e1:(hi - lo) / pw h=1:=by rw [Nat.div_eq_iff hp]; omega
   have e2:(hi - lo) % pw h=hi - (lo+pw h):=by rw [Nat.mod_eq_sub_mod hfit,Nat.mod_eq_of_lt (by omega)]; omega
   rw [e1,e2,List.length_cons,ih (lo+pw h) hi (by omega)]; omega
  ·rename_i hno
   rw [Nat.div_eq_of_lt (by omega),Nat.mod_eq_of_lt (by omega),ih lo hi (by omega)]; omega
theorem ones_up (j d n:Nat) (h:n<2^j):ones (j+d) n=ones j n:=by
 induction d with
 | zero=>rfl
 | succ d ih=>rw [← Nat.add_assoc,ones_more _ _ (Nat.lt_of_lt_of_le h (Nat.pow_le_pow_right (by decide) (by omega))),ih]
theorem cov_ones (n:Nat) (hn:n≤2^40):(cov 0 n).length=ones 64 n:=by
 rw [cov_zero n hn, dn_ones 41 0 n (by have : pw 41 = 2 ^ 41 := rfl
                                       omega)]
 exact (ones_up 41 23 n (by omega)).symm
theorem cov_forty (n:Nat) (hn:n≤2^40):(cov 0 n).length≤40:=by
 by_cases h:n=2^40
 ·subst h; decide
 ·rw [cov_zero n hn, show (41 : Nat) = 40 + 1 from rfl, dn_skip (by have : pw 40 = 2 ^ 40 := rfl
                                                                    omega)]
  exact dn_len 40 0 n
end Go.Proofs.YtoblgjledefdbaaGreatDoor.Cv
namespace Go.Proofs.YtoblgjledefdbaaGreatDoor
open Go.RowKit
theorem Tryz.laidOut:laidOutB Tryz.prog=true:=by kernel_rfl
theorem Tryz.rowB:(249:TypeId)<Tryz.prog.types.size:=of_decide_eq_true (by kernel_rfl)
theorem Tryz.deepB:Tryz.prog.keyTypeAt 2 249=true:=by kernel_rfl
theorem Tryz.keyed:Maps.Keyed Tryz.prog 249:=Maps.Keyed.of_law (deep_law_laid Tryz.laidOut (m:=2) (by omega) Tryz.rowB Tryz.deepB (by rw [Tryz.underlying249]))
def kv (h:Int) (k:Nat):Value := .agg #[.int .i64 h,.int .u64 (k:Int)]
def nv (s:ByteArray):Value := .agg #[.string s]
theorem kv_inj {h h':Int} {k k':Nat} (e:kv h k=kv h' k'):h=h'∧k=k':=by
 have h1:Value.int .i64 h=Value.int .i64 h'∧Value.int .u64 (k:Int)=Value.int .u64 (k':Int):=by
  unfold kv at e
  injection e with e
  have:=congrArg Array.toList e
  injection this with a b
  injection b with b _
  exact ⟨a,b⟩
 obtain ⟨a,b⟩:=h1
 injection a with _ a
 injection b with _ b
 exact ⟨a,by omega⟩
theorem nv_inj {s s':ByteArray} (e:nv s=nv s'):s=s':=by
 unfold nv at e
 injection e with e
 have:=congrArg Array.toList e
 injection this with a _
 injection a
def Fitb (h:Int) (k:Nat):Prop:=(-9223372036854775808≤h∧h≤9223372036854775807)∧k<18446744073709551616
theorem keyT:Tryz.prog.keyType 249=true:=by kernel_rfl
theorem cellsB:Tryz.prog.cellsOf 249=2:=by kernel_rfl
theorem cells_i:Tryz.prog.cellsOf 3=1:=by kernel_rfl
theorem cells_u:Tryz.prog.cellsOf 48=1:=by kernel_rfl
theorem typesS : ∃ n,Tryz.prog.types.size+1=n+2:=by
 have h:0<Tryz.prog.types.size:=Nat.lt_of_le_of_lt (Nat.zero_le _) Tryz.rowB
 generalize Tryz.prog.types.size=z at *
 exact ⟨z - 1,by omega⟩
theorem kv_lits (n:Nat) (h u:Int) (w1:(Lit.int .i64 h).wf=true) (w2:(Lit.int .u64 u).wf=true):Tryz.prog.keyLits (n+2) 249 [.int .i64 h,.int .u64 u]=some [.int .i64 h,.int .u64 u]:=by
 simp [Program.keyLits,Tryz.underlying249,w1,w2,cellsB,cells_i,cells_u,Tryz.underlying3,Tryz.underlying48]
theorem kv_formed (h:Int) (k:Nat):(kv h k).formed Tryz.prog 249=true:=by
 simp [Value.formed,Tryz.underlying249,cellsB,kv]
theorem kv_key {h:Int} {k:Nat} (hf:Fitb h k) : ∃ l,keyOf Tryz.prog 249 (kv h k)=some l:=by
 obtain ⟨n,hn⟩:=typesS
 obtain ⟨h1,h3⟩:=hf
 have e:=kv_lits n h k (WalkArith.wf_i64 h1) (WalkArith.wf_u64 ⟨by omega,by omega⟩)
 have e2:(kv h k).cells.toList=[.int .i64 h,.int .u64 (k:Int)]:=rfl
 rw [← hn,← e2] at e
 unfold keyOf
 rw [Tryz.underlying249]
 simp only [keyT,kv_formed,Bool.and_self,if_true,e,Option.map_some]
 exact ⟨_,rfl⟩
def Mp (w:World) (b:Nat) (f:Int→Nat→Option ByteArray):Prop :=
 ∃ es clock,w.heap[b]? = some (.map es clock)∧(∀ e∈es.toList,∃ h k s,Fitb h k∧e.key=kv h k∧e.val=nv s)∧es.toList.Pairwise (fun x y=>x.key≠y.key) ∧
  ∀ h k s,Fitb h k→(f h k=some s ↔ ∃ e∈es.toList,e.key=kv h k∧e.val=nv s)
theorem Mp.lt {w:World} {b:Nat} {f:Int→Nat→Option ByteArray} (h:Mp w b f):b<w.heap.size:=by
 obtain ⟨es,c,h1,_⟩:=h
 exact (Array.getElem?_eq_some_iff.1 h1).1
theorem Mp.same {w W:World} {b:Nat} {f:Int→Nat→Option ByteArray} (h:Mp w b f) (hb:W.heap[b]? = w.heap[b]?):Mp W b f:=by
 obtain ⟨es,c,h1,h2⟩:=h
 exact ⟨es,c,hb.trans h1,h2⟩
theorem mp_new (w:World):Mp (w.alloc (.map #[] 0)) w.heap.size (fun _ _=>none):=by
 refine ⟨#[],0,(MapKept.heap_alloc w _).1,?_,?_,?_⟩
 ·intro e he; simp at he
 ·simp
 ·intro h k s _; simp
theorem Mp.find {w:World} {b:Nat} {f:Int→Nat→Option ByteArray} (hm:Mp w b f) {h:Int} {k:Nat} (hf:Fitb h k) :
  ∃ es clock,w.heap[b]? = some (.map es clock)∧((f h k=none∧(Instr.findKey 249 (kv h k) es.toList).run Tryz.prog w = .ok none w ∧ ∀ e∈es.toList,e.key≠kv h k) ∨
   ∃ j e s,f h k=some s∧(Instr.findKey 249 (kv h k) es.toList).run Tryz.prog w = .ok (some (j,nv s)) w∧es.toList[j]? = some e∧e.key=kv h k):=by
 obtain ⟨es,c,h1,h2,h3,h4⟩:=hm
 obtain ⟨l,hl⟩:=kv_key hf
 refine ⟨es,c,h1,?_⟩
 rcases Tryz.keyed.find w hl es.toList (fun e he=>by obtain ⟨h',k',s,hf',e1,_⟩:=h2 e he; rw [e1]; exact kv_key hf') with ⟨r1,r2⟩ | ⟨j,e,r1,r2,r3⟩
 ·refine .inl ⟨?_,r1,r2⟩
  cases hx:f h k with
  | none=>rfl
  | some s =>
   obtain ⟨e,he,ek,_⟩:=(h4 h k s hf).1 hx
   exact absurd ek (r2 e he)
 ·have hm:=List.mem_of_getElem? r2
  obtain ⟨h',k',s,hf',e1,e2⟩:=h2 e hm
  rw [e2] at r1
  exact .inr ⟨j,e,s,(h4 h k s hf).2 ⟨e,hm,r3,e2⟩,r1,r2,r3⟩
theorem Mp.look {w:World} {b:Nat} {f:Int→Nat→Option ByteArray} (hm:Mp w b f) {h:Int} {k:Nat} (hf:Fitb h k) (c:Bool) :
  (Instr.lookup 170 (.map (some b)) (kv h k) c).run Tryz.prog w = .ok (if c then .tuple #[nv ((f h k).getD ByteArray.empty),.bool (f h k).isSome] else nv ((f h k).getD ByteArray.empty)) w:=by
 obtain ⟨l,hl⟩:=kv_key hf
 obtain ⟨es,cl,h1,⟨e0,e1,_⟩ | ⟨j,e,s,e0,e1,_⟩⟩:=hm.find hf
 ·rw [e0]
  simp [Instr.lookup,run_underlying Tryz.underlying170,MapKept.run_getObj_map h1,Tryz.keyed.check w _ hl,e1,Result.andThen]
  rfl
 ·rw [e0]
  simp [Instr.lookup,run_underlying Tryz.underlying170,MapKept.run_getObj_map h1,Tryz.keyed.check w _ hl,e1,Result.andThen]
def put (f:Int→Nat→Option ByteArray) (h:Int) (k:Nat) (s:ByteArray):Int→Nat→Option ByteArray:=fun h' k'=>if h'=h∧k'=k then some s else f h' k'
theorem Mp.write {w:World} {b:Nat} {f:Int→Nat→Option ByteArray} (hm:Mp w b f) {h:Int} {k:Nat} (hf:Fitb h k) (s:ByteArray) :
  ∃ es clock,(Instr.mapUpdate 170 (.map (some b)) (kv h k) (nv s)).run Tryz.prog w = .ok () (ChangeMaps.setBlock w b (.map es clock))∧Mp (ChangeMaps.setBlock w b (.map es clock)) b (put f h k s):=by
 have hb:=hm.lt
 obtain ⟨l,hl⟩:=kv_key hf
 have sz : ∀ o,(ChangeMaps.setBlock w b o).heap[b]? = some o:=fun o=>by simp [ChangeMaps.setBlock,hb]
 obtain ⟨es,cl,h1,hor⟩:=hm.find hf
 obtain ⟨es',cl',g1,g2,g3,g4⟩:=hm
 rw [h1] at g1
 injection g1 with g1
 injection g1 with g1 g1'
 subst g1 g1'
 rcases hor with ⟨e0,e1,e2⟩ | ⟨j,e,s0,e0,e1,e2,e3⟩
 ·refine ⟨es.push ⟨kv h k,nv s,cl⟩,cl+1,?_,_,_,sz _,?_,?_,?_⟩
  ·simp [Instr.mapUpdate,run_underlying Tryz.underlying170,MapKept.run_getObj_map h1,Tryz.keyed.check w false hl,e1,MapKept.run_setObj_map _ h1,Result.andThen,ChangeMaps.setBlock]
  ·intro x hx
   simp only [Array.toList_push,List.mem_append,List.mem_singleton] at hx
   rcases hx with hx | rfl
   ·exact g2 x hx
   ·exact ⟨h,k,s,hf,rfl,rfl⟩
  ·rw [Array.toList_push,List.pairwise_append]
   refine ⟨g3,by simp,fun x hx y hy => ?_⟩
   simp only [List.mem_singleton] at hy
   subst hy
   exact e2 x hx
  ·intro h' k' s' hf'
   simp only [put,Array.toList_push,List.mem_append,List.mem_singleton]
   by_cases hq:h'=h∧k'=k
   ·obtain ⟨rfl,rfl⟩:=hq
    rw [if_pos ⟨rfl,rfl⟩]
    refine ⟨fun hs => ?_,?_⟩
    ·injection hs with hs
     subst hs
     exact ⟨_,.inr rfl,rfl,rfl⟩
    ·rintro ⟨x,hx | rfl,ex,ey⟩
     ·exact absurd ex (e2 x hx)
     ·rw [nv_inj ey]
   ·rw [if_neg hq,g4 h' k' s' hf']
    refine ⟨fun ⟨x,hx,r⟩=>⟨x,.inl hx,r⟩,?_⟩
    rintro ⟨x,hx | rfl,ex,ey⟩
    ·exact ⟨x,hx,ex,ey⟩
    ·obtain ⟨q1,q2⟩:=kv_inj ex
     exact absurd ⟨q1.symm,q2.symm⟩ hq
 ·have hj:es[j]? = some e:=by simpa using e2
  have hlist:(es.modify j (fun e' => { e' with key:=kv h k,val:=nv s })).toList=es.toList.set j { e with key:=kv h k,val:=nv s } := by rw [Array.toList_modify,ChangeMaps.modify_eq_set _ _ _ _ e2]
  have hjl:j<es.toList.length:=(List.getElem?_eq_some_iff.1 e2).1
  have hne : ∀ i x,es.toList[i]? = some x→i≠j→x.key≠kv h k:=fun i x hx hij=>by
   have hil:=(List.getElem?_eq_some_iff.1 hx).1
   have pw:=List.pairwise_iff_getElem.1 g3
   have ei:es.toList[i]=x:=(List.getElem?_eq_some_iff.1 hx).2
   have ej:es.toList[j]=e:=(List.getElem?_eq_some_iff.1 e2).2
   rcases Nat.lt_or_gt_of_ne hij with hlt | hlt
   ·have:=pw i j hil hjl hlt
    rw [ei,ej,e3] at this
    exact this
   ·have:=pw j i hjl hil hlt
    rw [ei,ej,e3] at this
    exact fun q=>this q.symm
  have who : ∀ x,x∈es.toList.set j { e with key:=kv h k,val:=nv s } ↔ x = { e with key:=kv h k,val:=nv s } ∨ (x∈es.toList∧x.key≠kv h k):=by
   intro x
   constructor
   ·intro hx
    obtain ⟨i,hi,ex⟩:=List.getElem_of_mem hx
    rw [List.getElem_set] at ex
    split at ex
    ·exact .inl ex.symm
    ·rename_i hn
     have hi':i<es.toList.length:=by simpa using hi
     exact .inr ⟨ex ▸ List.getElem_mem hi',hne i x (by rw [List.getElem?_eq_getElem hi',ex]) (fun q=>hn q.symm)⟩
   ·rintro (rfl | ⟨hx,hk⟩)
    ·exact List.mem_iff_getElem.2 ⟨j,by simpa using hjl,by simp⟩
    ·obtain ⟨i,hi,ex⟩:=List.getElem_of_mem hx
     refine List.mem_iff_getElem.2 ⟨i,by simpa using hi,?_⟩
     rw [List.getElem_set_ne]
     ·exact ex
     ·rintro rfl
      apply hk
      rw [← ex,(List.getElem?_eq_some_iff.1 e2).2,e3]
  refine ⟨es.modify j (fun e' => { e' with key:=kv h k,val:=nv s }),cl,?_,_,_,sz _,?_,?_,?_⟩
  ·simp [Instr.mapUpdate,run_underlying Tryz.underlying170,MapKept.run_getObj_map h1,Tryz.keyed.check w false hl,e1,hj,e3,Tryz.keyed.stays w hl,MapKept.run_setObj_map _ h1,Result.andThen,ChangeMaps.setBlock]
  ·intro x hx
   rw [hlist] at hx
   rcases (who x).1 hx with rfl | ⟨hx,_⟩
   ·exact ⟨h,k,s,hf,rfl,rfl⟩
   ·exact g2 x hx
  ·rw [hlist,List.pairwise_iff_getElem]
   have pw:=List.pairwise_iff_getElem.1 g3
   have ky : ∀ i (hi:i<(es.toList.set j { e with key:=kv h k,val:=nv s }).length),((es.toList.set j { e with key:=kv h k,val:=nv s })[i]).key=(es.toList[i]'(by simpa using hi)).key:=by
    intro i hi
    rw [List.getElem_set]
    split
    ·rename_i q
     subst q
     rw [(List.getElem?_eq_some_iff.1 e2).2,e3]
    ·rfl
   intro i i' hi hi' hlt
   rw [ky i hi,ky i' hi']
   exact pw i i' _ _ hlt
  ·intro h' k' s' hf'
   rw [hlist]
   by_cases hq:h'=h∧k'=k
   ·obtain ⟨rfl,rfl⟩:=hq
    rw [put,if_pos ⟨rfl,rfl⟩]
    refine ⟨fun hs => ?_,?_⟩
    ·injection hs with hs
     subst hs
     exact ⟨_,(who _).2 (.inl rfl),rfl,rfl⟩
    ·rintro ⟨x,hx,ex,ey⟩
     rcases (who x).1 hx with rfl | ⟨_,hk⟩
     ·rw [nv_inj ey]
     ·exact absurd ex hk
   ·rw [put,if_neg hq,g4 h' k' s' hf']
    constructor
    ·rintro ⟨x,hx,ex,ey⟩
     refine ⟨x,(who x).2 (.inr ⟨hx,fun q=>hq ?_⟩),ex,ey⟩
     obtain ⟨q1,q2⟩:=kv_inj (ex.symm.trans q)
     exact ⟨q1,q2⟩
    ·rintro ⟨x,hx,ex,ey⟩
     rcases (who x).1 hx with rfl | ⟨hx,_⟩
     ·obtain ⟨q1,q2⟩:=kv_inj ex
      exact absurd ⟨q1.symm,q2.symm⟩ hq
     ·exact ⟨x,hx,ex,ey⟩
end Go.Proofs.YtoblgjledefdbaaGreatDoor
