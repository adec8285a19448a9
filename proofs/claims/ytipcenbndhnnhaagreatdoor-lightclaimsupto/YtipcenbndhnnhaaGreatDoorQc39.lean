/- Own work. -/
import Derived.Test.YtipcenbndhnnhaaGreatDoorQc38
namespace Go.Proofs.YtipcenbndhnnhaaGreatDoor
open Go.RowKit
open Cv (RdC zl cU Rd incB incB_iff)
attribute [local go_sem ↓] Go.wp_at_zero Go.wp_at_succ
theorem refrising_q (w:World) (ao:Option Addr) (b off n cap:Nat) (l:List Nat) (r:Rd w ao b off n l) (hn:n≤maxLen) :
  Calls Tryz.prog 138 #[.slice ao n cap] w fun e w'=>e = .returned (.bool (incB l)) ∧ ∃ m,w'=w.drewN m:=by
 have hn':(n:Int)≤9223372036854775807:=by unfold maxLen at hn; omega
 have HR:Hid (Rd w ao b off n l):=r
 clear hn r
 go_enter Tryz.func138,Tryz.ntmps138
 go_wp2
 go_loopg [3] n (fun g i wr => ∃ k:Nat,(k≤n∨k=1)∧1≤k∧g=n+1 - k∧i = .int .i64 (k:Int)∧(∀ j,j+1<k→l.getD j 0<l.getD (j+1) 0) ∧ ∃ m,wr=w.drewN m)
 case atStart =>
  go_light
  exact ⟨1,.inr rfl,Nat.le_refl _,by omega,rfl,fun j hj=>absurd hj (by omega),0,rfl⟩
 case round =>
  obtain ⟨k,hk,hk1,rfl,rfl,he,m,hm⟩:=hrel
  have hb:Below w.heap.size w wr:=by rw [hm]; exact below_drewN (Below.refl _ _) _
  have HM:=hide hm
  clear hm
  have hk0:(0:Int)≤(k:Int):=Int.natCast_nonneg _
  by_cases hlt:k<n
  ·obtain ⟨i,rfl⟩ : ∃ i,k=i+1:=⟨k - 1,by omega⟩
   have r1:=HR.out.below hb
   obtain rfl:=r1.addr (by omega)
   have c1:=r1.cell (i+1) hlt
   have c2:=r1.cell i (by omega)
   have hz:((i+1:Nat):Int)<(n:Int):=by omega
   have ei:(((i+1:Nat):Int) - 1)=(i:Int):=by omega
   have ec:((i+1:Nat):Int)=(i:Int)+1:=by omega
   have hz2:(i:Int)+1<(n:Int):=by omega
   have hz3:(i:Int)<(n:Int):=by omega
   have hi0:(0:Int)≤(i:Int):=Int.natCast_nonneg _
   have hi1:(0:Int)≤(i:Int)+1:=by omega
   have HE:Hid (∀ j,j+1<i+1→l.getD j 0<l.getD (j+1) 0):=he
   have HI:Hid (¬ l.getD i 0<l.getD (i+1) 0→incB l=false):=fun hno=>by
    cases hB:incB l with
    | false=>rfl
    | true=>exact absurd (((incB_iff l).1 hB).2 i (by have:=HR.out.len; omega)) hno
   obtain ⟨x,hx⟩ : ∃ x,l.getD (i+1) 0=x:=⟨_,rfl⟩
   obtain ⟨y,hy⟩ : ∃ y,l.getD i 0=y:=⟨_,rfl⟩
   rw [hx] at c1
   rw [hy] at c2
   rw [hx,hy] at HI
   have HX:Hid (l.getD (i+1) 0=x∧l.getD i 0=y):=⟨hx,hy⟩
   have hlt2:i+1<n:=hlt
   clear hx hy r1 hb he hk hlt
   by_cases hxy:x≤y
   ·have HN:Hid (incB l=false):=HI.out (by omega)
    go_wp2
    go_quiet (fail)
    go_wp2
    go_ret
    exact ⟨by rw [HN.out]; rfl,_,by rw [HM.out,World.drewN_drewN]⟩
   ·go_wp2
    go_quiet (fail)
    go_wp2
    go_roundg (n+1 - (i+1+1))
    case rel =>
     go_light
     refine ⟨i+1+1,by omega,by omega,rfl,by go_num,fun j hj => ?_,_,by rw [HM.out,World.drewN_drewN]⟩
     by_cases hjk:j=i
     ·subst hjk; rw [HX.out.1,HX.out.2]; omega
     ·exact HE.out j (by omega)
    case measure=>go_light; omega
  ·have hz : ¬ (k:Int)<(n:Int):=by omega
   have hz' : ¬ k<n:=by omega
   have HN:Hid (decide ((0:Int)<(n:Int))=incB l):=by
    have hl:=HR.out.len
    cases hB:incB l with
    | true=>have:=((incB_iff l).1 hB).1; exact decide_eq_true (by omega)
    | false =>
     refine decide_eq_false (fun hp => ?_)
     have:incB l=true:=(incB_iff l).2 ⟨by omega,fun i hi=>he i (by omega)⟩
     rw [this] at hB; cases hB
   clear he hb hk
   go_wp2
   go_ret
   refine ⟨?_,m,HM.out⟩
   have:=HN.out
   simp at this ⊢
   exact this
set_option maxRecDepth 100000 in
set_option maxHeartbeats 2000000 in
theorem rformed_1 (w:World) (kd k:Int) (old size:Nat) (sa:Option Addr) (sb so sc:Nat) (S:List Nat) (hs:RdU w sa sb so S.length S) (hns:S.length≤1048576) (da:Option Addr) (dn dc:Nat) (c1 : ¬ kd=2) :
  Calls Tryz.prog 91 #[vP kd k old size (.slice sa S.length sc) (.slice da dn dc)] w fun e w'=>e = .returned (.bool false)∧Below w.heap.size w w':=by
 have h6:=six_new w (.int .i64 kd) (.int .i64 k) (.int .u64 (old:Int)) (.int .u64 (size:Int)) (.slice sa S.length sc) (.slice da dn dc)
 have hb:=bal (Below.refl w.heap.size w) (.cells #[.int .i64 kd,.int .i64 k,.int .u64 (old:Int),.int .u64 (size:Int),.slice sa S.length sc,.slice da dn dc] 38)
 obtain ⟨W0,hW0⟩ : ∃ W0,w.alloc (.cells #[.int .i64 kd,.int .i64 k,.int .u64 (old:Int),.int .u64 (size:Int),.slice sa S.length sc,.slice da dn dc] 38)=W0:=⟨_,rfl⟩
 rw [hW0] at h6 hb
 obtain ⟨g0,g1,g2,g3,g4,g5⟩:=h6.cells
 have HB:=hide hb
 have HC:Hid (∀ W,Calls Tryz.prog 17 #[.int .i64 k] W fun e w'=>e = .returned (.int .i64 (chk k))∧w'=W):=fun W=>refcheck_any W k
 have HRi:Hid (∀ W,Below W0.heap.size W0 W→Calls Tryz.prog 138 #[.slice sa S.length sc] W fun e w'=>e = .returned (.bool (incB S)) ∧ ∃ m,w'=W.drewN m):=fun W hW=>refrising_q W sa sb so S.length sc S (rdu_rd (hs.next (bnext hb hW))) (by unfold maxLen; omega)
 unfold vP
 have f2:decide (kd=2)=false:=decide_eq_false c1
 have f3:(kd != 2)=true:=by simp; exact c1
 have f4:(!decide (kd=2))=true:=by rw [f2]; rfl
 clear hs h6 hb hns f2
 go_enter Tryz.func91,Tryz.ntmps91
 go_upto_region 1 with (fail)
 try rw [hW0]
 clear hW0
 go_quiet (fail)
 go_wp2
 go_ret
 exact ⟨rfl,below_drewN HB.out _⟩
set_option maxRecDepth 100000 in
set_option maxHeartbeats 2000000 in
theorem rformed_2 (w:World) (kd k:Int) (old size:Nat) (sa:Option Addr) (sb so sc:Nat) (S:List Nat) (hs:RdU w sa sb so S.length S) (hns:S.length≤1048576) (da:Option Addr) (dn dc:Nat) (c1:kd=2) (c2 : ¬ (1≤k∧k≤32)) :
  Calls Tryz.prog 91 #[vP kd k old size (.slice sa S.length sc) (.slice da dn dc)] w fun e w'=>e = .returned (.bool false)∧Below w.heap.size w w':=by
 have h6:=six_new w (.int .i64 kd) (.int .i64 k) (.int .u64 (old:Int)) (.int .u64 (size:Int)) (.slice sa S.length sc) (.slice da dn dc)
 have hb:=bal (Below.refl w.heap.size w) (.cells #[.int .i64 kd,.int .i64 k,.int .u64 (old:Int),.int .u64 (size:Int),.slice sa S.length sc,.slice da dn dc] 38)
 obtain ⟨W0,hW0⟩ : ∃ W0,w.alloc (.cells #[.int .i64 kd,.int .i64 k,.int .u64 (old:Int),.int .u64 (size:Int),.slice sa S.length sc,.slice da dn dc] 38)=W0:=⟨_,rfl⟩
 rw [hW0] at h6 hb
 obtain ⟨g0,g1,g2,g3,g4,g5⟩:=h6.cells
 have HB:=hide hb
 have HC:Hid (∀ W,Calls Tryz.prog 17 #[.int .i64 k] W fun e w'=>e = .returned (.int .i64 70)∧w'=W):=fun W=>by have:=refcheck_any W k; rw [show chk k=70 by rw [chk,if_pos (by omega)]] at this; exact this
 have HRi:Hid (∀ W,Below W0.heap.size W0 W→Calls Tryz.prog 138 #[.slice sa S.length sc] W fun e w'=>e = .returned (.bool (incB S)) ∧ ∃ m,w'=W.drewN m):=fun W hW=>refrising_q W sa sb so S.length sc S (rdu_rd (hs.next (bnext hb hW))) (by unfold maxLen; omega)
 unfold vP
 subst c1
 clear hs h6 hb hns c2
 go_enter Tryz.func91,Tryz.ntmps91
 go_upto_region 1 with (fail)
 try rw [hW0]
 clear hW0
 go_quiet (first
  | (go_at_call 17; refine Calls.quiet_of_same (HC.out _)))
 go_wp2
 go_ret
 exact ⟨rfl,below_drewN HB.out _⟩
set_option maxRecDepth 100000 in
set_option maxHeartbeats 2000000 in
theorem rformed_3 (w:World) (kd k:Int) (old size:Nat) (sa:Option Addr) (sb so sc:Nat) (S:List Nat) (hs:RdU w sa sb so S.length S) (hns:S.length≤1048576) (da:Option Addr) (dn dc:Nat) (c1:kd=2) (c2:1≤k∧k≤32) (c3:2^40<size) :
  Calls Tryz.prog 91 #[vP kd k old size (.slice sa S.length sc) (.slice da dn dc)] w fun e w'=>e = .returned (.bool false)∧Below w.heap.size w w':=by
 have h6:=six_new w (.int .i64 kd) (.int .i64 k) (.int .u64 (old:Int)) (.int .u64 (size:Int)) (.slice sa S.length sc) (.slice da dn dc)
 have hb:=bal (Below.refl w.heap.size w) (.cells #[.int .i64 kd,.int .i64 k,.int .u64 (old:Int),.int .u64 (size:Int),.slice sa S.length sc,.slice da dn dc] 38)
 obtain ⟨W0,hW0⟩ : ∃ W0,w.alloc (.cells #[.int .i64 kd,.int .i64 k,.int .u64 (old:Int),.int .u64 (size:Int),.slice sa S.length sc,.slice da dn dc] 38)=W0:=⟨_,rfl⟩
 rw [hW0] at h6 hb
 obtain ⟨g0,g1,g2,g3,g4,g5⟩:=h6.cells
 have HB:=hide hb
 have HC:Hid (∀ W,Calls Tryz.prog 17 #[.int .i64 k] W fun e w'=>e = .returned (.int .i64 0)∧w'=W):=fun W=>by have:=refcheck_any W k; rw [show chk k=0 by rw [chk,if_neg (by omega)]] at this; exact this
 have HRi:Hid (∀ W,Below W0.heap.size W0 W→Calls Tryz.prog 138 #[.slice sa S.length sc] W fun e w'=>e = .returned (.bool (incB S)) ∧ ∃ m,w'=W.drewN m):=fun W hW=>refrising_q W sa sb so S.length sc S (rdu_rd (hs.next (bnext hb hW))) (by unfold maxLen; omega)
 unfold vP
 subst c1
 have f8:decide ((1099511627776:Int)<(size:Int))=true:=decide_eq_true (by omega)
 clear hs h6 hb hns c2 c3
 go_enter Tryz.func91,Tryz.ntmps91
 go_upto_region 1 with (fail)
 try rw [hW0]
 clear hW0
 go_quiet (first
  | (go_at_call 17; refine Calls.quiet_of_same (HC.out _)))
 go_wp2
 go_ret
 exact ⟨rfl,below_drewN HB.out _⟩
set_option maxRecDepth 100000 in
set_option maxHeartbeats 2000000 in
theorem rformed_4 (w:World) (kd k:Int) (old size:Nat) (sa:Option Addr) (sb so sc:Nat) (S:List Nat) (hs:RdU w sa sb so S.length S) (hns:S.length≤1048576) (da:Option Addr) (dn dc:Nat) (c1:kd=2) (c2:1≤k∧k≤32) (c3 : ¬ 2^40<size) (c4 : ¬ old=0) :
  Calls Tryz.prog 91 #[vP kd k old size (.slice sa S.length sc) (.slice da dn dc)] w fun e w'=>e = .returned (.bool false)∧Below w.heap.size w w':=by
 have h6:=six_new w (.int .i64 kd) (.int .i64 k) (.int .u64 (old:Int)) (.int .u64 (size:Int)) (.slice sa S.length sc) (.slice da dn dc)
 have hb:=bal (Below.refl w.heap.size w) (.cells #[.int .i64 kd,.int .i64 k,.int .u64 (old:Int),.int .u64 (size:Int),.slice sa S.length sc,.slice da dn dc] 38)
 obtain ⟨W0,hW0⟩ : ∃ W0,w.alloc (.cells #[.int .i64 kd,.int .i64 k,.int .u64 (old:Int),.int .u64 (size:Int),.slice sa S.length sc,.slice da dn dc] 38)=W0:=⟨_,rfl⟩
 rw [hW0] at h6 hb
 obtain ⟨g0,g1,g2,g3,g4,g5⟩:=h6.cells
 have HB:=hide hb
 have HC:Hid (∀ W,Calls Tryz.prog 17 #[.int .i64 k] W fun e w'=>e = .returned (.int .i64 0)∧w'=W):=fun W=>by have:=refcheck_any W k; rw [show chk k=0 by rw [chk,if_neg (by omega)]] at this; exact this
 have HRi:Hid (∀ W,Below W0.heap.size W0 W→Calls Tryz.prog 138 #[.slice sa S.length sc] W fun e w'=>e = .returned (.bool (incB S)) ∧ ∃ m,w'=W.drewN m):=fun W hW=>refrising_q W sa sb so S.length sc S (rdu_rd (hs.next (bnext hb hW))) (by unfold maxLen; omega)
 unfold vP
 subst c1
 have f8:decide ((1099511627776:Int)<(size:Int))=false:=decide_eq_false (by omega)
 have f6:decide (old=0)=false:=decide_eq_false c4
 have f7:decide ((old:Int)=0)=false:=decide_eq_false (by omega)
 have f9:((old:Int) != 0)=true:=by simp; omega
 have f10:(!decide (old=0))=true:=by rw [f6]; rfl
 have f11:(!decide ((old:Int)=0))=true:=by rw [f7]; rfl
 clear hs h6 hb hns c2 c3 c4 f6 f7
 go_enter Tryz.func91,Tryz.ntmps91
 go_upto_region 1 with (fail)
 try rw [hW0]
 clear hW0
 go_quiet (first
  | (go_at_call 17; refine Calls.quiet_of_same (HC.out _)))
 go_wp2
 go_ret
 exact ⟨rfl,below_drewN HB.out _⟩
set_option maxRecDepth 100000 in
set_option maxHeartbeats 2000000 in
theorem rformed_5 (w:World) (kd k:Int) (old size:Nat) (sa:Option Addr) (sb so sc:Nat) (S:List Nat) (hs:RdU w sa sb so S.length S) (hns:S.length≤1048576) (da:Option Addr) (dn dc:Nat) (c1:kd=2) (c2:1≤k∧k≤32) (c3 : ¬ 2^40<size) (c4:old=0) (c5:incB S=false) :
  Calls Tryz.prog 91 #[vP kd k old size (.slice sa S.length sc) (.slice da dn dc)] w fun e w'=>e = .returned (.bool false)∧Below w.heap.size w w':=by
 have h6:=six_new w (.int .i64 kd) (.int .i64 k) (.int .u64 (old:Int)) (.int .u64 (size:Int)) (.slice sa S.length sc) (.slice da dn dc)
 have hb:=bal (Below.refl w.heap.size w) (.cells #[.int .i64 kd,.int .i64 k,.int .u64 (old:Int),.int .u64 (size:Int),.slice sa S.length sc,.slice da dn dc] 38)
 obtain ⟨W0,hW0⟩ : ∃ W0,w.alloc (.cells #[.int .i64 kd,.int .i64 k,.int .u64 (old:Int),.int .u64 (size:Int),.slice sa S.length sc,.slice da dn dc] 38)=W0:=⟨_,rfl⟩
 rw [hW0] at h6 hb
 obtain ⟨g0,g1,g2,g3,g4,g5⟩:=h6.cells
 have HB:=hide hb
 have HC:Hid (∀ W,Calls Tryz.prog 17 #[.int .i64 k] W fun e w'=>e = .returned (.int .i64 0)∧w'=W):=fun W=>by have:=refcheck_any W k; rw [show chk k=0 by rw [chk,if_neg (by omega)]] at this; exact this
 have HRi:Hid (∀ W,Below W0.heap.size W0 W→Calls Tryz.prog 138 #[.slice sa S.length sc] W fun e w'=>e = .returned (.bool false) ∧ ∃ m,w'=W.drewN m):=fun W hW=>by rw [← c5]; exact refrising_q W sa sb so S.length sc S (rdu_rd (hs.next (bnext hb hW))) (by unfold maxLen; omega)
 unfold vP
 subst c1 c4
 have f8:decide ((1099511627776:Int)<(size:Int))=false:=decide_eq_false (by omega)
 rw [show ((0:Nat):Int)=0 from rfl] at *
 clear hs h6 hb hns c2 c3 c5
 go_enter Tryz.func91,Tryz.ntmps91
 go_upto_region 1 with (fail)
 try rw [hW0]
 clear hW0
 go_quiet (first
  | (go_at_call 17; refine Calls.quiet_of_same (HC.out _))
  | (go_at_call 138; refine Calls.quiet_of (HRi.out _ (below_drewN (Below.refl _ _) _))))
 go_wp2
 go_ret
 exact ⟨rfl,below_drewN HB.out _⟩
set_option maxRecDepth 100000 in
set_option maxHeartbeats 2000000 in
theorem rformed_6 (w:World) (kd k:Int) (old size:Nat) (sa:Option Addr) (sb so sc:Nat) (S:List Nat) (hs:RdU w sa sb so S.length S) (hns:S.length≤1048576) (da:Option Addr) (dn dc:Nat) (c1:kd=2) (c2:1≤k∧k≤32) (c3 : ¬ 2^40<size) (c4:old=0) (c5:incB S=true) (c6:size≤S.getD (S.length - 1) 0) :
  Calls Tryz.prog 91 #[vP kd k old size (.slice sa S.length sc) (.slice da dn dc)] w fun e w'=>e = .returned (.bool false)∧Below w.heap.size w w':=by
 have h6:=six_new w (.int .i64 kd) (.int .i64 k) (.int .u64 (old:Int)) (.int .u64 (size:Int)) (.slice sa S.length sc) (.slice da dn dc)
 have hb:=bal (Below.refl w.heap.size w) (.cells #[.int .i64 kd,.int .i64 k,.int .u64 (old:Int),.int .u64 (size:Int),.slice sa S.length sc,.slice da dn dc] 38)
 obtain ⟨W0,hW0⟩ : ∃ W0,w.alloc (.cells #[.int .i64 kd,.int .i64 k,.int .u64 (old:Int),.int .u64 (size:Int),.slice sa S.length sc,.slice da dn dc] 38)=W0:=⟨_,rfl⟩
 rw [hW0] at h6 hb
 obtain ⟨g0,g1,g2,g3,g4,g5⟩:=h6.cells
 have HB:=hide hb
 have HC:Hid (∀ W,Calls Tryz.prog 17 #[.int .i64 k] W fun e w'=>e = .returned (.int .i64 0)∧w'=W):=fun W=>by have:=refcheck_any W k; rw [show chk k=0 by rw [chk,if_neg (by omega)]] at this; exact this
 have HRi:Hid (∀ W,Below W0.heap.size W0 W→Calls Tryz.prog 138 #[.slice sa S.length sc] W fun e w'=>e = .returned (.bool true) ∧ ∃ m,w'=W.drewN m):=fun W hW=>by rw [← c5]; exact refrising_q W sa sb so S.length sc S (rdu_rd (hs.next (bnext hb hW))) (by unfold maxLen; omega)
 unfold vP
 subst c1 c4
 have f8:decide ((1099511627776:Int)<(size:Int))=false:=decide_eq_false (by omega)
 have hin:=((incB_iff S).1 c5).1
 obtain rfl:=hs.ptr hin
 obtain ⟨l1,hl1⟩ : ∃ l1,S.length - 1=l1:=⟨_,rfl⟩
 have hl2:(S.length:Int) - 1=(l1:Int):=by omega
 have hl3:(l1:Int)<(S.length:Int):=by omega
 have hl4:(0:Int)≤(l1:Int):=Int.natCast_nonneg _
 have cl:=(hs.next hb).at (j:=l1) (by omega)
 rw [hl1] at c6
 obtain ⟨y,hy⟩ : ∃ y,S.getD l1 0=y:=⟨_,rfl⟩
 rw [hy] at cl c6
 have hS63:(S.length:Int)≤1048576:=by omega
 have d1:decide ((size:Int)≤(y:Int))=true:=decide_eq_true (by omega)
 have d2:decide (size≤y)=true:=decide_eq_true c6
 rw [show ((0:Nat):Int)=0 from rfl] at *
 clear hs h6 hb hns c2 c3 c5 hin hl1 hy
 go_enter Tryz.func91,Tryz.ntmps91
 go_upto_region 1 with (fail)
 try rw [hW0]
 clear hW0
 go_quiet (first
  | (go_at_call 17; refine Calls.quiet_of_same (HC.out _))
  | (go_at_call 138; refine Calls.quiet_of (HRi.out _ (below_drewN (Below.refl _ _) _))))
 go_wp2
 go_ret
 exact ⟨rfl,below_drewN HB.out _⟩
set_option maxRecDepth 100000 in
set_option maxHeartbeats 2000000 in
theorem rformed_7 (w:World) (kd k:Int) (old size:Nat) (sa:Option Addr) (sb so sc:Nat) (S:List Nat) (hs:RdU w sa sb so S.length S) (hns:S.length≤1048576) (da:Option Addr) (dn dc:Nat) (c1:kd=2) (c2:1≤k∧k≤32) (c3 : ¬ 2^40<size) (c4:old=0) (c5:incB S=true) (c6 : ¬ size≤S.getD (S.length - 1) 0) (db dO:Nat) (D:List ByteArray) (hdn:D.length=dn) (hr:RdS w da db dO dn D) (hm:dn≤8796093022208) (q:Nat) (hq:(Cv.rst 0 size S).length=q) (r:Bool) (hq2:decide (fil k q D)=r) :
  Calls Tryz.prog 91 #[vP kd k old size (.slice sa S.length sc) (.slice da dn dc)] w fun e w'=>e = .returned (.bool r)∧Below w.heap.size w w':=by
 have herr:Cv.errS size S=0:=by rw [Cv.errS,if_neg c3,if_neg (by rw [c5]; decide),if_neg c6]
 have h6:=six_new w (.int .i64 kd) (.int .i64 k) (.int .u64 (old:Int)) (.int .u64 (size:Int)) (.slice sa S.length sc) (.slice da dn dc)
 have hb:=bal (Below.refl w.heap.size w) (.cells #[.int .i64 kd,.int .i64 k,.int .u64 (old:Int),.int .u64 (size:Int),.slice sa S.length sc,.slice da dn dc] 38)
 obtain ⟨W0,hW0⟩ : ∃ W0,w.alloc (.cells #[.int .i64 kd,.int .i64 k,.int .u64 (old:Int),.int .u64 (size:Int),.slice sa S.length sc,.slice da dn dc] 38)=W0:=⟨_,rfl⟩
 rw [hW0] at h6 hb
 obtain ⟨g0,g1,g2,g3,g4,g5⟩:=h6.cells
 have HB:=hide hb
 have HC:Hid (∀ W,Calls Tryz.prog 17 #[.int .i64 k] W fun e w'=>e = .returned (.int .i64 0)∧w'=W):=fun W=>by have:=refcheck_any W k; rw [show chk k=0 by rw [chk,if_neg (by omega)]] at this; exact this
 have HRi:Hid (∀ W,Below W0.heap.size W0 W→Calls Tryz.prog 138 #[.slice sa S.length sc] W fun e w'=>e = .returned (.bool true) ∧ ∃ m,w'=W.drewN m):=fun W hW=>by rw [← c5]; exact refrising_q W sa sb so S.length sc S (rdu_rd (hs.next (bnext hb hW))) (by unfold maxLen; omega)
 unfold vP
 subst c1 c4 hdn
 have f8:decide ((1099511627776:Int)<(size:Int))=false:=decide_eq_false (by omega)
 have hin:=((incB_iff S).1 c5).1
 obtain rfl:=hs.ptr hin
 obtain ⟨l1,hl1⟩ : ∃ l1,S.length - 1=l1:=⟨_,rfl⟩
 have hl2:(S.length:Int) - 1=(l1:Int):=by omega
 have hl3:(l1:Int)<(S.length:Int):=by omega
 have hl4:(0:Int)≤(l1:Int):=Int.natCast_nonneg _
 have cl:=(hs.next hb).at (j:=l1) (by omega)
 rw [hl1] at c6
 obtain ⟨y,hy⟩ : ∃ y,S.getD l1 0=y:=⟨_,rfl⟩
 rw [hy] at cl c6
 have hS63:(S.length:Int)≤1048576:=by omega
 have d1:decide ((size:Int)≤(y:Int))=false:=decide_eq_false (by omega)
 have d2:decide (size≤y)=false:=decide_eq_false c6
 have hq40:q<2^40:=by
  have h1:=Cv.rst_len size (by omega) S 0 (Cv.errS_ok herr).2.2.2
  omega
 have HCo:Hid (∀ W,Below W0.heap.size W0 W→Calls Tryz.prog 139 #[.int .u64 (size:Int),.slice (some ⟨sb,so,none⟩) S.length sc] W fun e w'=>e = .returned (.tuple #[.int .u64 (q:Int),.int .i64 0])∧Below W.heap.size W w'):=fun W hW=>rcount_ok size W _ sb so S.length sc S (rdu_rd (hs.next (bnext hb hW))) hns herr q hq
 have HDi:Hid (∀ W,Below W0.heap.size W0 W→Calls Tryz.prog 140 #[.int .i64 k,.slice da D.length dc,.int .i64 (D.length:Int)] W fun e w'=>e = .returned (.bool (decide (fil k D.length D)))∧Below W.heap.size W w'):=fun W hW=>rdigs_any W k da db dO dc D (hr.next (bnext hb hW) (Nat.le_refl _)) hm D.length _ rfl
 have HS:Hid (∀ W,Below W0.heap.size W0 W→Six W w.heap.size (.int .i64 2) (.int .i64 k) (.int .u64 0) (.int .u64 (size:Int)) (.slice (some ⟨sb,so,none⟩) S.length sc) (.slice da D.length dc)):=fun W hW=>h6.next hW
 have hdz:(D.length:Int)≤8796093022208:=by omega
 rw [show ((0:Nat):Int)=0 from rfl] at *
 clear hs h6 hb hns c2 c3 c5 hin hl1 hy c6 herr hr hm hq hq40
 go_enter Tryz.func91,Tryz.ntmps91
 go_upto_region 1 with (fail)
 try rw [hW0]
 clear hW0
 go_quiet (first
  | (go_at_call 17; refine Calls.quiet_of_same (HC.out _))
  | (go_at_call 138; refine Calls.quiet_of (HRi.out _ (below_drewN (Below.refl _ _) _))))
 have hbq:=below_drewN (Below.refl W0.heap.size W0) nq
 obtain ⟨m0,m1,m2,m3,m4,m5⟩:=(HS.out _ hbq).cells
 have HCq:=HCo.out _ hbq
 have HBq:=hide hbq
 clear hbq
 generalize W0.drewN nq=wq at *
 by_cases hDq:D.length=q
 ·obtain rfl:decide (fil k D.length D)=r:=by rw [hDq]; exact hq2
  subst hDq
  have eD:IntKind.u64.wrap (D.length:Int)=(D.length:Int):=by rw [IntKind.wrap_u64]; omega
  clear hq2
  go_wp2_with (first
   | (go_at_call 139; with_reducible refine HCq.mono ?_; rintro e w2 ⟨rfl,hb2⟩; obtain ⟨n0,n1,n2,n3,n4,n5⟩:=(HS.out _ (bnext HBq.out hb2)).cells)
   | (go_at_call 140; with_reducible refine (HDi.out _ (bnext HBq.out hb2)).mono ?_; rintro e w3 ⟨rfl,hb3⟩))
  go_ret
  exact ⟨rfl,bnext HB.out (bnext (bnext HBq.out hb2) hb3)⟩
 ·obtain rfl:false=r:=by rw [← hq2]; exact (decide_eq_false fun h=>hDq h.1).symm
  have eD:IntKind.u64.wrap (D.length:Int)=(D.length:Int):=by rw [IntKind.wrap_u64]; omega
  have hDz : ¬ (D.length:Int)=(q:Int):=by omega
  have hDb:decide (D.length=q)=false:=decide_eq_false hDq
  clear hq2
  go_wp2_with (first
   | (go_at_call 139; with_reducible refine HCq.mono ?_; rintro e w2 ⟨rfl,hb2⟩; obtain ⟨n0,n1,n2,n3,n4,n5⟩:=(HS.out _ (bnext HBq.out hb2)).cells))
  go_ret
  exact ⟨rfl,bnext HB.out (bnext HBq.out hb2)⟩
theorem rformed_any (w:World) (kd k:Int) (old size:Nat) (sa:Option Addr) (sb so sc:Nat) (S:List Nat) (hs:RdU w sa sb so S.length S) (hns:S.length≤1048576) (da:Option Addr) (db dO dc:Nat) (D:List ByteArray) (hr:RdS w da db dO D.length D) (hm:D.length≤8796093022208) (r:Bool) (hq:decide (okB kd k old size S D)=r) :
  Calls Tryz.prog 91 #[vP kd k old size (.slice sa S.length sc) (.slice da D.length dc)] w fun e w'=>e = .returned (.bool r)∧Below w.heap.size w w':=by
 have no : ¬ okB kd k old size S D→r=false:=fun h=>by rw [← hq]; exact decide_eq_false h
 by_cases c1:kd=2
 ·by_cases c2:1≤k∧k≤32
  ·by_cases c3:2^40<size
   ·rw [no (fun h=>by have:=(Cv.errS_ok h.2.1).1; omega)]
    exact rformed_3 w kd k old size sa sb so sc S hs hns da D.length dc c1 c2 c3
   ·by_cases c4:old=0
    ·by_cases c5:incB S=true
     ·by_cases c6:size≤S.getD (S.length - 1) 0
      ·rw [no (fun h=>by have:=(Cv.errS_ok h.2.1).2.2.1; omega)]
       exact rformed_6 w kd k old size sa sb so sc S hs hns da D.length dc c1 c2 c3 c4 c5 c6
      ·have herr:Cv.errS size S=0:=by rw [Cv.errS,if_neg c3,if_neg (by rw [c5]; decide),if_neg c6]
       refine rformed_7 w kd k old size sa sb so sc S hs hns da D.length dc c1 c2 c3 c4 c5 c6 db dO D rfl hr hm _ rfl r ?_
       rw [← hq]
       have:okB kd k old size S D↔fil k (Cv.rst 0 size S).length D:=by
        rw [okB,Cv.rstS,if_pos herr]
        exact ⟨fun h=>h.2.2,fun h=>⟨⟨c1,c2,c4⟩,herr,h⟩⟩
       simp only [this]
     ·rw [no (fun h=>c5 ((incB_iff S).2 (Cv.errS_ok h.2.1).2.1))]
      exact rformed_5 w kd k old size sa sb so sc S hs hns da D.length dc c1 c2 c3 c4 (by simpa using c5)
    ·rw [no (fun h=>c4 h.1.2.2)]
     exact rformed_4 w kd k old size sa sb so sc S hs hns da D.length dc c1 c2 c3 c4
  ·rw [no (fun h=>c2 h.1.2.1)]
   exact rformed_2 w kd k old size sa sb so sc S hs hns da D.length dc c1 c2
 ·rw [no (fun h=>c1 h.1.1)]
  exact rformed_1 w kd k old size sa sb so sc S hs hns da D.length dc c1
end Go.Proofs.YtipcenbndhnnhaaGreatDoor
