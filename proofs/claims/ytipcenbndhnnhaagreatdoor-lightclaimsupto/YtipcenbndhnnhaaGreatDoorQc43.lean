/- Own work. -/
import Derived.Test.YtipcenbndhnnhaaGreatDoorQc36
import Derived.Test.YtipcenbndhnnhaaGreatDoorQc41
namespace Go.Proofs.YtipcenbndhnnhaaGreatDoor
open Go.RowKit
open Cv (zl)
open Pl (pw)
attribute [local go_sem ↓] Go.wp_at_zero Go.wp_at_succ
set_option maxRecDepth 100000 in
theorem refH_any (w:World) (ht:Tr w) (k:Int) (k1:1≤k) (k2:k≤32) (t:ByteArray) (hs:t.size<1152921504606846976) (r:ByteArray) (hr:dg (clk k) t=r) :
  Calls Tryz.prog 87 #[.int .i64 k,.string t] w fun e w'=>e = .returned (.string r)∧Below w.heap.size w w':=by
 subst hr
 have HS:=ref_one w ht t hs _ rfl
 unfold dg
 have hz:=shaS_size RS (tB t)
 generalize shaS RS (tB t)=z at *
 clear ht hs
 obtain ⟨c,rfl⟩ : ∃ c:Nat,k=(c:Int):=⟨k.toNat,by omega⟩
 have hc:clk (c:Int)=c:=by unfold clk; rw [if_neg (by omega),if_neg (by omega)]; simp
 rw [hc]
 have h3:(0:Int)≤(c:Int):=by omega
 have h4:(c:Int)≤32:=by omega
 clear hc k1 k2
 go_enter Tryz.func87,Tryz.ntmps87
 go_wp2_with (go_at_call 98; with_reducible refine HS.mono ?_; rintro e w1 ⟨rfl,hb1⟩)
 go_ret
 exact ⟨rfl,hb1⟩
set_option maxRecDepth 100000 in
theorem pow_any (w:World) (h:Nat) (hh:h≤40) (p:Nat) (hp:2^h=p) :
  Calls Tryz.prog 135 #[.int .i64 (h:Int)] w fun e w'=>e = .returned (.int .u64 (p:Int))∧w=w':=by
 have HP:=hide hp
 clear hp
 have h40:(h:Int)≤40:=by omega
 go_enter Tryz.func135,Tryz.ntmps135
 go_wp2
 go_loopg [3,4] h (fun g n i wr => ∃ j:Nat,j≤h∧g=h - j∧n = .int .u64 ((2^j:Nat):Int)∧i = .int .i64 (j:Int)∧w=wr)
 case atStart =>
  go_light
  exact ⟨0,Nat.zero_le _,rfl,rfl,rfl,rfl⟩
 case round =>
  obtain ⟨j,hj,rfl,rfl,rfl,rfl⟩:=hrel
  by_cases hlt:j<h
  ·have hz:(j:Int)<(h:Int):=by omega
   obtain ⟨q,hq⟩ : ∃ q,2^j=q:=⟨_,rfl⟩
   have hb:2^j≤2^40:=Nat.pow_le_pow_right (by decide) (by omega)
   rw [hq] at hb ⊢
   have e1:IntKind.u64.wrap (2 * (q:Int))=2 * (q:Int):=by rw [IntKind.wrap_u64]; omega
   have HQ:Hid (2 * (q:Int)=((2^(j+1):Nat):Int)):=by show _=_; rw [Nat.pow_succ,hq]; omega
   clear hq hb
   go_wp2
   go_roundg (h - (j+1))
   case rel =>
    go_light
    exact ⟨j+1,by omega,rfl,by rw [HQ.out],by go_num,rfl⟩
   case measure=>go_light; omega
  ·obtain rfl:j=h:=by omega
   have hz : ¬ ((j:Int)<(j:Int)):=by omega
   rw [HP.out]
   clear hlt
   go_wp2
   go_ret
   exact ⟨rfl,rfl⟩
set_option maxRecDepth 100000 in
theorem size_any (w:World) (h k:Nat) (hh:h≤40) (p:Nat) (hp:2^h=p) :
  Calls Tryz.prog 89 #[.agg #[.int .i64 (h:Int),.int .u64 (k:Int)]] w fun e w'=>e = .returned (.int .u64 (p:Int))∧Below w.heap.size w w':=by
 have HP:=hide hp
 clear hp
 have h40:(h:Int)≤40:=by omega
 have hb:=bal (Below.refl w.heap.size w) (.cells #[.int .i64 (h:Int),.int .u64 (k:Int)] 94)
 obtain ⟨w1,hw1⟩ : ∃ w1,w.alloc (.cells #[.int .i64 (h:Int),.int .u64 (k:Int)] 94)=w1:=⟨_,rfl⟩
 have c0:w1.cell? ⟨w.heap.size,0,none⟩=some (.int .i64 (h:Int)):=by rw [← hw1]; simp
 go_enter Tryz.func89,Tryz.ntmps89
 go_wp2
 rw [hw1] at hb
 clear hw1
 go_loopg [3,4] h (fun g n i wr => ∃ j:Nat,j≤h∧g=h - j∧n = .int .u64 ((2^j:Nat):Int)∧i = .int .i64 (j:Int)∧w1=wr)
 case atStart =>
  go_light
  exact ⟨0,Nat.zero_le _,rfl,rfl,rfl,rfl⟩
 case round =>
  obtain ⟨j,hj,rfl,rfl,rfl,rfl⟩:=hrel
  by_cases hlt:j<h
  ·have hz:(j:Int)<(h:Int):=by omega
   obtain ⟨q,hq⟩ : ∃ q,2^j=q:=⟨_,rfl⟩
   have hb:2^j≤2^40:=Nat.pow_le_pow_right (by decide) (by omega)
   rw [hq] at hb ⊢
   have e1:IntKind.u64.wrap (2 * (q:Int))=2 * (q:Int):=by rw [IntKind.wrap_u64]; omega
   have HQ:Hid (2 * (q:Int)=((2^(j+1):Nat):Int)):=by show _=_; rw [Nat.pow_succ,hq]; omega
   clear hq hb
   go_wp2
   go_roundg (h - (j+1))
   case rel =>
    go_light
    exact ⟨j+1,by omega,rfl,by rw [HQ.out],by go_num,rfl⟩
   case measure=>go_light; omega
  ·obtain rfl:j=h:=by omega
   have hz : ¬ ((j:Int)<(j:Int)):=by omega
   rw [HP.out]
   clear hlt
   go_wp2
   go_ret
   exact ⟨rfl,hb⟩
set_option maxRecDepth 100000 in
theorem start_any (w:World) (h k:Nat) (hh:h≤40) (hk:k * 2^h≤2^41) (p:Nat) (hp:k * 2^h=p) :
  Calls Tryz.prog 88 #[.agg #[.int .i64 (h:Int),.int .u64 (k:Int)]] w fun e w'=>e = .returned (.int .u64 (p:Int))∧Below w.heap.size w w':=by
 have HP:=hide hp
 clear hp
 have h40:(h:Int)≤40:=by omega
 have hb:=bal (Below.refl w.heap.size w) (.cells #[.int .i64 (h:Int),.int .u64 (k:Int)] 94)
 obtain ⟨w1,hw1⟩ : ∃ w1,w.alloc (.cells #[.int .i64 (h:Int),.int .u64 (k:Int)] 94)=w1:=⟨_,rfl⟩
 have c0:w1.cell? ⟨w.heap.size,0,none⟩=some (.int .i64 (h:Int)):=by rw [← hw1]; simp
 have c1:w1.cell? ⟨w.heap.size,1,none⟩=some (.int .u64 (k:Int)):=by rw [← hw1]; simp
 go_enter Tryz.func88,Tryz.ntmps88
 go_wp2
 rw [hw1] at hb
 clear hw1
 go_loopg [3,4] h (fun g n i wr => ∃ j:Nat,j≤h∧g=h - j∧n = .int .u64 ((k * 2^j:Nat):Int)∧i = .int .i64 (j:Int)∧w1=wr)
 case atStart =>
  go_light
  exact ⟨0,Nat.zero_le _,rfl,by simp,rfl,rfl⟩
 case round =>
  obtain ⟨j,hj,rfl,rfl,rfl,rfl⟩:=hrel
  by_cases hlt:j<h
  ·have hz:(j:Int)<(h:Int):=by omega
   obtain ⟨q,hq⟩ : ∃ q,k * 2^j=q:=⟨_,rfl⟩
   have hb:k * 2^j≤k * 2^h:=Nat.mul_le_mul_left _ (Nat.pow_le_pow_right (by decide) (by omega))
   rw [hq] at hb ⊢
   have e1:IntKind.u64.wrap (2 * (q:Int))=2 * (q:Int):=by rw [IntKind.wrap_u64]; omega
   have HQ:Hid (2 * (q:Int)=((k * 2^(j+1):Nat):Int)):=by show _=_; rw [Nat.pow_succ,← Nat.mul_assoc,hq]; omega
   clear hq hb
   go_wp2
   go_roundg (h - (j+1))
   case rel =>
    go_light
    exact ⟨j+1,by omega,rfl,by rw [HQ.out],by go_num,rfl⟩
   case measure=>go_light; omega
  ·obtain rfl:j=h:=by omega
   have hz : ¬ ((j:Int)<(j:Int)):=by omega
   rw [HP.out]
   clear hlt hk
   go_wp2
   go_ret
   exact ⟨rfl,hb⟩
set_option maxRecDepth 100000 in
set_option maxHeartbeats 1000000 in
theorem rmount_any (n:Nat) (w:World) (hn:n≤2^40) :
  Calls Tryz.prog 86 #[.int .u64 (n:Int)] w fun e w' => ∃ v,e = .returned v∧Cv.OwnB w' w.heap.size v (zl (Cv.dnL 41 0 n))∧Below w.heap.size w w':=by
 have HN:Hid (n≤2^40):=hn
 clear hn
 go_enter Tryz.func86,Tryz.ntmps86
 go_wp2
 go_loopg [3,4,5] 41 (fun g v f h wr => ∃ (m x:Nat) (acc:List (Nat×Nat)),m≤41∧m=g∧h = .int .i64 ((m:Int) - 1)∧f = .int .u64 (x:Int)∧x≤n∧Cv.OwnB wr w.heap.size v (zl acc)∧acc++Cv.dnL m x n=Cv.dnL 41 0 n∧acc.length+m≤41∧Below w.heap.size w wr)
 case atStart =>
  go_light
  exact ⟨41,0,[],by decide,rfl,rfl,rfl,Nat.zero_le _,World.ownsRow_nil _ _ _ _,rfl,by decide,Below.refl _ _⟩
 case round =>
  obtain ⟨m,x,acc,hm,rfl,rfl,rfl,hx,hown,hacc,hlen,hb⟩:=hrel
  have hn:=HN.out
  by_cases hm0:m=0
  ·subst hm0
   have ht : ¬ (0:Int)≤((0:Nat):Int) - 1:=by omega
   have HF:Hid (Cv.OwnB wr w.heap.size u3 (zl (Cv.dnL 41 0 n))∧Below w.heap.size w wr):=⟨by
    rw [← hacc]; simpa [Cv.dnL] using hown,hb⟩
   clear hx hown hacc hlen hb hn hm
   go_wp2
   go_ret
   exact ⟨_,rfl,HF.out⟩
  ·obtain ⟨i,rfl⟩ : ∃ i,m=i+1:=⟨m - 1,by omega⟩
   have ei:(((i+1:Nat):Int) - 1)=(i:Int):=by omega
   rw [ei]
   have hi0:(0:Int)≤(i:Int):=Int.natCast_nonneg _
   have hi1:(i:Int)≤40:=by omega
   obtain ⟨p,hp⟩ : ∃ p,pw i=p:=⟨_,rfl⟩
   have hp40:pw i≤pw 40:=Pl.pw_le (by omega)
   have e40:pw 40=2^40:=rfl
   have hpp:=Pl.pw_pos i
   rw [hp] at hp40 hpp
   have HPw:Hid (∀ W,Calls Tryz.prog 135 #[.int .i64 (i:Int)] W fun e w'=>e = .returned (.int .u64 (p:Int))∧W=w'):=fun W=>pow_any W i (by omega) p hp
   obtain ⟨d,hd⟩ : ∃ d,n - x=d:=⟨_,rfl⟩
   have ed:IntKind.u64.wrap ((n:Int) - (x:Int))=(d:Int):=by rw [IntKind.wrap_u64]; omega
   have hne : ¬ (p:Int)=0:=by omega
   have hsz:=hb.size
   by_cases hfit:p≤d
   ·have hfi:(p:Int)≤(d:Int):=by omega
    obtain ⟨q,hq⟩ : ∃ q,x / pw i=q:=⟨_,rfl⟩
    have hq2:x / p=q:=by rw [← hp]; exact hq
    have hqx:q≤x:=by rw [← hq]; exact Nat.div_le_self _ _
    have eq:(x:Int) / (p:Int)=(q:Int):=by rw [← hq2]; rfl
    have eq2:IntKind.u64.wrap (q:Int)=(q:Int):=by rw [IntKind.wrap_u64]; omega
    have ef:IntKind.u64.wrap ((x:Int)+(p:Int))=((x+p:Nat):Int):=by rw [IntKind.wrap_u64]; omega
    have hu:=Cv.dn_yes (h:=i) (lo:=x) (hi:=n) (by omega)
    rw [hq,hp] at hu
    have HX:Hid (acc++[(i,q)]++Cv.dnL i (x+p) n=Cv.dnL 41 0 n∧x+p≤n∧(acc++[(i,q)]).length+i≤41∧Below w.heap.size w wr∧w.heap.size≤wr.heap.size∧acc.length≤41):=by
     refine ⟨?_,by omega,by simp; omega,hb,hsz,by omega⟩
     rw [List.append_assoc,← hacc,hu]; rfl
    clear hx hacc hlen hb hn hm hm0 hp hd hq hq2 hqx hu e40 hp40 hpp hsz hfit
    go_wp2_with (first
     | (go_at_call 135; with_reducible refine (HPw.out _).mono ?_; rintro e wp ⟨rfl,rfl⟩)
     | (at_builtin; refine Cv.wpList_append_B _ rfl _ _ rfl w.heap.size _ (zl acc) rfl (hown.alloc _) _ [((i:Int),q)] rfl (Cv.rdc_block wr (i:Int) q 94) ?c1 ?c2 ?_))
    case c1=>have:=HX.out.2.2.2.2.2; rw [Cv.zl_len]; simp; omega
    case c2=>have:=HX.out.2.2.2.2.1; simp; omega
    intro v' w1 r1 r2 _
    have R:=Cv.ownB_step HX.out.2.2.2.1 HX.out.2.2.2.2.1 hown r2
    clear r2 hown
    go_wp2_with (go_at_call 135; with_reducible refine (HPw.out _).mono ?_; rintro e wp ⟨rfl,rfl⟩)
    go_roundg i
    case rel =>
     go_light
     obtain ⟨x1,x2,x3,x4,x5,x6⟩:=HX.out
     refine ⟨i,x+p,acc++[(i,q)],by omega,rfl,by go_num,by go_num,x2,?_,x1,x3,R.1⟩
     rw [Cv.zl_app]; exact r1
    case measure=>go_light; omega
   ·have hfi : ¬ (p:Int)≤(d:Int):=by omega
    have hu:=Cv.dn_no (h:=i) (lo:=x) (hi:=n) (by omega)
    rw [hu] at hacc
    have HX:Hid (acc++Cv.dnL i x n=Cv.dnL 41 0 n∧x≤n∧acc.length+i≤41∧Below w.heap.size w wr):=⟨hacc,hx,by omega,hb⟩
    clear hx hacc hlen hb hn hm hm0 hp hd hu e40 hp40 hpp hsz
    go_wp2_with (go_at_call 135; with_reducible refine (HPw.out _).mono ?_; rintro e wp ⟨rfl,rfl⟩)
    go_roundg i
    case rel =>
     go_light
     obtain ⟨x1,x2,x3,x4⟩:=HX.out
     exact ⟨i,x,acc,by omega,rfl,by go_num,rfl,x2,hown,x1,x3,x4⟩
    case measure=>go_light; omega
end Go.Proofs.YtipcenbndhnnhaaGreatDoor
