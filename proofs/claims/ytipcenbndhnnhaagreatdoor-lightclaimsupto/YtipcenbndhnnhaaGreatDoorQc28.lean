/- Own work. -/
import Derived.Test.YtipcenbndhnnhaaGreatDoorQc16
namespace Go.Proofs.YtipcenbndhnnhaaGreatDoor
open Go.RowKit
attribute [local go_sem ↓] Go.wp_at_zero Go.wp_at_succ
set_option maxRecDepth 100000 in
theorem pow_anyC (w:World) (h:Nat) (hh:h≤40) (p:Nat) (hp:2^h=p) :
  Calls Tryz.prog 179 #[.int .i64 (h:Int)] w fun e w'=>e = .returned (.int .u64 (p:Int))∧w=w':=by
 have HP:=hideC hp
 clear hp
 have h40:(h:Int)≤40:=by omega
 go_enter Tryz.func179,Tryz.ntmps179
 go_wp2
 go_loopg [3,4] h (fun g n i wr => ∃ j:Nat,j≤h∧g=h - j∧n = .int .u64 ((2^j:Nat):Int)∧i = .int .i64 (j:Int)∧w=wr)
 case atStart =>
  go_light
  exact ⟨0,Nat.zero_le _,rfl,rfl,rfl,rfl⟩
 case round =>
  obtain ⟨j,hj,rfl,rfl,rfl,rfl⟩:=hrel
  by_cases hlt:j<h
  ·have hz:(j:Int)<(h:Int):=by omega
   obtain ⟨q,hq⟩ : ∃ q,2^j=q:=⟨_,rfl⟩
   have hb:2^j≤2^40:=Nat.pow_le_pow_right (by decide) (by omega)
   rw [hq] at hb ⊢
   have e1:IntKind.u64.wrap (2 * (q:Int))=2 * (q:Int):=by rw [IntKind.wrap_u64]; omega
   have HQ:Hid (2 * (q:Int)=((2^(j+1):Nat):Int)):=by show _=_; rw [Nat.pow_succ,hq]; omega
   clear hq hb
   go_wp2
   go_roundg (h - (j+1))
   case rel =>
    go_light
    exact ⟨j+1,by omega,rfl,by rw [HQ.out],by go_num,rfl⟩
   case measure=>go_light; omega
  ·obtain rfl:j=h:=by omega
   have hz : ¬ ((j:Int)<(j:Int)):=by omega
   rw [HP.out]
   clear hlt
   go_wp2
   go_ret
   exact ⟨rfl,rfl⟩
open Cv (cU RdC) in
set_option maxRecDepth 100000 in
set_option maxHeartbeats 1000000 in
theorem within_any (w:World) (sa:Option Addr) (sb so sc:Nat) (S:List Nat) (lo hi:Nat) (rs:RdU w sa sb so S.length S) (hS:S.length≤17592186043904) :
  Calls Tryz.prog 180 #[.slice sa S.length sc,.int .u64 (lo:Int),.int .u64 (hi:Int)] w fun e w' => ∃ v,e = .returned v∧Cv.Own w' w.heap.size v (S.filter fun i=>decide (lo≤i) && decide (i<hi))∧Below w.heap.size w w':=by
 obtain ⟨u0,hu1,hu2,hu3,hu4⟩:=info_parts Cv.Tryz.infoU
 have HU:Hid (Tryz.prog.info? 23=some u0∧u0.zero=some (.int .u64 0)∧u0.size=1∧u0.bytes=8):=⟨hu1,hu2,hu3,hu4⟩
 have HS:Hid (∀ F,Below w.heap.size w F→RdU F sa sb so S.length S):=fun F hF=>rs.next hF
 have HL:Hid (S.length≤17592186043904):=hS
 have hS1:(S.length:Int)≤17592186043904:=by omega
 clear rs hS hu1 hu2 hu3 hu4
 go_enter Tryz.func180,Tryz.ntmps180
 go_wp2
 go_loopg [7,8] S.length (fun g l ix wr => ∃ j:Nat,j≤S.length∧g=S.length - j∧ix = .int .i64 (j:Int)∧Cv.Own wr w.heap.size l ((S.take j).filter fun i=>decide (lo≤i) && decide (i<hi))∧Below w.heap.size w wr)
 case atStart =>
  go_light
  exact ⟨0,Nat.zero_le _,rfl,rfl,World.ownsRow_nil _ _ _ _,Below.refl _ _⟩
 case round =>
  obtain ⟨j,hj,rfl,rfl,ho,hb⟩:=hrel
  have hj0:(0:Int)≤(j:Int):=Int.natCast_nonneg _
  by_cases hlt:j<S.length
  ·have hlt':(j:Int)<(S.length:Int):=by omega
   have R:=HS.out _ hb
   obtain rfl:=R.ptr (by omega)
   have cj:=R.at (j:=j) hlt
   have htk:=take_nextC (S:=S) (j:=j) hlt
   obtain ⟨i,hi'⟩ : ∃ i,S.getD j 0=i:=⟨_,rfl⟩
   rw [hi'] at cj htk
   by_cases hin:lo≤i∧i<hi
   ·have h1:(lo:Int)≤(i:Int):=by omega
    have h2:(i:Int)<(hi:Int):=by omega
    have hf:(S.take (j+1)).filter (fun i=>decide (lo≤i) && decide (i<hi))=(S.take j).filter (fun i=>decide (lo≤i) && decide (i<hi))++[i]:=by
     rw [htk,List.filter_append]
     congr 1
     simp [hin.1,hin.2]
    have hlen:((S.take j).filter fun i=>decide (lo≤i) && decide (i<hi)).length≤j:=Nat.le_trans (List.length_filter_le _ _) (by rw [List.length_take]; omega)
    generalize hX:(S.take j).filter (fun i=>decide (lo≤i) && decide (i<hi))=X at *
    have HX:Hid ((S.take (j+1)).filter (fun i=>decide (lo≤i) && decide (i<hi))=X++[i]∧X.length≤j∧Below w.heap.size w wr):=⟨hf,hlen,hb⟩
    have HO:Hid (Cv.Own wr w.heap.size _ X):=ho
    clear hf hlen htk hi' hin R hX ho hb
    go_wp2_with (at_builtin; refine Cv.wpList_append_ap _ rfl _ _ _ rfl w.heap.size 23 u0 (.int .u64 0) 1 8 Tryz.underlying24 HU.out.1 HU.out.2.1 HU.out.2.2.1 HU.out.2.2.2 rfl (by decide) _ X.length (cU X) rfl (HO.out.alloc _) _ 1 (cU [i]) rfl (rdc_num wr i) rfl (Cv.cU_one [i]) ?c1 ?c2 ?c3 ?_)
    case c1=>have:=HX.out.2.1; have:=HL.out; unfold maxLen; omega
    case c2=>have:=HX.out.2.1; have:=HL.out; omega
    case c3=>have:=HX.out.2.2.size; simp; omega
    intro v2 w2 a2
    have hb2:=(Cv.ownB_step HX.out.2.2 HX.out.2.2.size HO.out a2.grown).1
    have o2:Cv.Own w2 w.heap.size v2 (X++[i]):=by
     have:=a2.own
     rw [Cv.Own,List.length_append]
     simpa [cU] using this
    have H2:Hid (Cv.Own w2 w.heap.size v2 (X++[i])∧Below w.heap.size w w2):=⟨o2,hb2⟩
    clear a2 o2 hb2
    go_wp2
    go_roundg (S.length - (j+1))
    case rel =>
     go_light
     refine ⟨j+1,hlt,rfl,by go_num,?_,H2.out.2⟩
     rw [HX.out.1]; exact H2.out.1
    case measure=>go_light; omega
   ·have hf:(S.take (j+1)).filter (fun i=>decide (lo≤i) && decide (i<hi))=(S.take j).filter (fun i=>decide (lo≤i) && decide (i<hi)):=by
     rw [htk,List.filter_append,List.filter_cons_of_neg (by simp; omega),List.filter_nil,List.append_nil]
    have HX:=hideC hf
    have HB:=hideC hb
    have HO:=hideC ho
    clear htk hi' R hf hb ho
    by_cases h1:lo≤i
    ·have h1':(lo:Int)≤(i:Int):=by omega
     have h2' : ¬ (i:Int)<(hi:Int):=by omega
     clear hin
     go_wp2
     go_roundg (S.length - (j+1))
     case rel =>
      go_light
      refine ⟨j+1,hlt,rfl,by go_num,?_,HB.out⟩
      rw [HX.out]; exact HO.out
     case measure=>go_light; omega
    ·have h1' : ¬ (lo:Int)≤(i:Int):=by omega
     clear hin
     go_wp2
     go_roundg (S.length - (j+1))
     case rel =>
      go_light
      refine ⟨j+1,hlt,rfl,by go_num,?_,HB.out⟩
      rw [HX.out]; exact HO.out
     case measure=>go_light; omega
  ·obtain hje:j=S.length:=by omega
   have hlt' : ¬ (j:Int)<(S.length:Int):=by omega
   rw [hje,List.take_length] at ho
   obtain ⟨av,mv,cv,rfl⟩:=Cv.own_slice ho
   have HO:Hid (Cv.Own wr w.heap.size (.slice av mv cv) (S.filter fun i=>decide (lo≤i) && decide (i<hi))∧Below w.heap.size w wr):=⟨ho,hb⟩
   clear ho hb
   go_wp2
   go_ret
   exact ⟨_,rfl,HO.out.1,HO.out.2⟩
end Go.Proofs.YtipcenbndhnnhaaGreatDoor
namespace Go.Proofs.YtipcenbndhnnhaaGreatDoor.Cv
open Pl
open Go.RowKit
attribute [local go_sem ↓] Go.wp_at_zero Go.wp_at_succ
set_option maxRecDepth 100000 in
set_option maxHeartbeats 1000000 in
theorem rmounts_anyC (n:Nat) (w:World) (hn:n≤2^40) :
  Calls Tryz.prog 177 #[.int .u64 (n:Int)] w fun e w' => ∃ v,e = .returned v∧OwnB w' w.heap.size v (zl (dnL 41 0 n))∧Below w.heap.size w w':=by
 have HN:Hid (n≤2^40):=hn
 clear hn
 go_enter Tryz.func177,Tryz.ntmps177
 go_wp2
 go_loopg [3,4,5] 41 (fun g v f h wr => ∃ (m x:Nat) (acc:List (Nat×Nat)),m≤41∧m=g∧h = .int .i64 ((m:Int) - 1)∧f = .int .u64 (x:Int)∧x≤n∧OwnB wr w.heap.size v (zl acc)∧acc++dnL m x n=dnL 41 0 n∧acc.length+m≤41∧Below w.heap.size w wr)
 case atStart =>
  go_light
  exact ⟨41,0,[],by decide,rfl,rfl,rfl,Nat.zero_le _,World.ownsRow_nil _ _ _ _,rfl,by decide,Below.refl _ _⟩
 case round =>
  obtain ⟨m,x,acc,hm,rfl,rfl,rfl,hx,hown,hacc,hlen,hb⟩:=hrel
  have hn:=HN.out
  by_cases hm0:m=0
  ·subst hm0
   have ht : ¬ (0:Int)≤((0:Nat):Int) - 1:=by omega
   have HF:Hid (OwnB wr w.heap.size u3 (zl (dnL 41 0 n))∧Below w.heap.size w wr):=⟨by
    rw [← hacc]; simpa [dnL] using hown,hb⟩
   clear hx hown hacc hlen hb hn hm
   go_wp2
   go_ret
   exact ⟨_,rfl,HF.out⟩
  ·obtain ⟨i,rfl⟩ : ∃ i,m=i+1:=⟨m - 1,by omega⟩
   have ei:(((i+1:Nat):Int) - 1)=(i:Int):=by omega
   rw [ei]
   have hi0:(0:Int)≤(i:Int):=Int.natCast_nonneg _
   have hi1:(i:Int)≤40:=by omega
   obtain ⟨p,hp⟩ : ∃ p,pw i=p:=⟨_,rfl⟩
   have HPw:=fun W=>pow_anyC W i (by omega) p hp
   have hp40:pw i≤pw 40:=pw_le (by omega)
   have e40:pw 40=2^40:=rfl
   have hpp:=pw_pos i
   rw [hp] at hp40 hpp
   obtain ⟨d,hd⟩ : ∃ d,n - x=d:=⟨_,rfl⟩
   have ed:IntKind.u64.wrap ((n:Int) - (x:Int))=(d:Int):=by rw [IntKind.wrap_u64]; omega
   have hne : ¬ (p:Int)=0:=by omega
   have hsz:=hb.size
   by_cases hfit:p≤d
   ·have hfi:(p:Int)≤(d:Int):=by omega
    obtain ⟨q,hq⟩ : ∃ q,x / pw i=q:=⟨_,rfl⟩
    have hq2:x / p=q:=by rw [← hp]; exact hq
    have hqx:q≤x:=by rw [← hq]; exact Nat.div_le_self _ _
    have eq:(x:Int) / (p:Int)=(q:Int):=by rw [← hq2]; rfl
    have eq2:IntKind.u64.wrap (q:Int)=(q:Int):=by rw [IntKind.wrap_u64]; omega
    have ef:IntKind.u64.wrap ((x:Int)+(p:Int))=((x+p:Nat):Int):=by rw [IntKind.wrap_u64]; omega
    have hu:=dn_yes (h:=i) (lo:=x) (hi:=n) (by omega)
    rw [hq,hp] at hu
    have HX:Hid (acc++[(i,q)]++dnL i (x+p) n=dnL 41 0 n∧x+p≤n∧(acc++[(i,q)]).length+i≤41∧Below w.heap.size w wr∧w.heap.size≤wr.heap.size∧acc.length≤41):=by
     refine ⟨?_,by omega,by simp; omega,hb,hsz,by omega⟩
     rw [List.append_assoc,← hacc,hu]; rfl
    have HO:Hid (OwnB wr w.heap.size _ (zl acc)):=hown
    clear hx hacc hlen hb hn hm hm0 hp hd hq hq2 hqx hu e40 hp40 hpp hsz hfit hown
    go_wp2_with (first
     | (go_at_call 179; (refine (HPw _).mono ?_); rintro e w' ⟨rfl,rfl⟩)
     | (at_builtin; refine wpList_append_B _ rfl _ _ rfl w.heap.size _ (zl acc) rfl (HO.out.alloc _) _ [((i:Int),q)] rfl (rdc_block _ (i:Int) q 94) ?c1 ?c2 ?_))
    case c1=>have:=HX.out.2.2.2.2.2; rw [zl_len]; simp; omega
    case c2=>have:=HX.out.2.2.2.2.1; simp; omega
    intro v' w1 r1 r2 _
    have R:=ownB_step HX.out.2.2.2.1 HX.out.2.2.2.2.1 HO.out r2
    clear r2
    go_wp2_with (go_at_call 179; (refine (HPw _).mono ?_); rintro e w' ⟨rfl,rfl⟩)
    go_roundg i
    case rel =>
     go_light
     obtain ⟨x1,x2,x3,x4,x5,x6⟩:=HX.out
     refine ⟨i,x+p,acc++[(i,q)],by omega,rfl,by go_num,by go_num,x2,?_,x1,x3,R.1⟩
     rw [zl_app]; exact r1
    case measure=>go_light; omega
   ·have hfi : ¬ (p:Int)≤(d:Int):=by omega
    have hu:=dn_no (h:=i) (lo:=x) (hi:=n) (by omega)
    rw [hu] at hacc
    have HX:Hid (acc++dnL i x n=dnL 41 0 n∧x≤n∧acc.length+i≤41∧Below w.heap.size w wr):=⟨hacc,hx,by omega,hb⟩
    clear hx hacc hlen hb hn hm hm0 hp hd hu e40 hp40 hpp hsz
    go_wp2_with (go_at_call 179; (refine (HPw _).mono ?_); rintro e w' ⟨rfl,rfl⟩)
    go_roundg i
    case rel =>
     go_light
     obtain ⟨x1,x2,x3,x4⟩:=HX.out
     exact ⟨i,x,acc,by omega,rfl,by go_num,rfl,x2,hown,x1,x3,x4⟩
    case measure=>go_light; omega
theorem tin_outC {lo hi H K:Nat} (h:(K+1) * pw H≤lo∨hi≤K * pw H):tin lo hi H K=[]:=by
 have hp:=pw_pos H
 have e:(K+1) * pw H=K * pw H+pw H:=by rw [Nat.add_mul,Nat.one_mul]
 cases H with
 | zero=>rw [tin,if_neg (by omega)]
 | succ H=>rw [tin,if_neg (by omega),if_pos h]
theorem tin_whole {lo hi H K:Nat} (h:lo≤K * pw H∧(K+1) * pw H≤hi):(tin lo hi H K).length=1:=by
 cases H with
 | zero=>rw [tin,if_pos h]; rfl
 | succ H=>rw [tin,if_pos h]; rfl
set_option maxRecDepth 100000 in
set_option maxHeartbeats 1000000 in
theorem rspan_anyC (lo hi:Nat) : ∀ (H K:Nat) (w:World),H≤40→(K+1) * pw H≤2^40 →
  Calls Tryz.prog 178 #[.int .i64 (H:Int),.int .u64 (K:Int),.int .u64 (lo:Int),.int .u64 (hi:Int)] w fun e w'=>e = .returned (.int .u64 ((tin lo hi H K).length:Nat))∧w'=w:=by
 intro H
 induction H with
 | zero =>
  intro K w hH hK
  have HPw:=fun W=>pow_anyC W 0 (by omega) 1 rfl
  have e0:pw 0=1:=rfl
  rw [e0] at hK
  have ea:IntKind.u64.wrap (K:Int)=(K:Int):=by rw [IntKind.wrap_u64]; omega
  have eb:IntKind.u64.wrap ((K:Int)+1)=(K:Int)+1:=by rw [IntKind.wrap_u64]; omega
  by_cases h1:K+1≤lo∨hi≤K
  ·rw [tin_outC (by rw [e0]; omega)]
   by_cases h2:K+1≤lo
   ·have h2':(K:Int)+1≤(lo:Int):=by omega
    clear h1 hK hH
    go_enter Tryz.func178,Tryz.ntmps178
    go_wp2_with (go_at_call 179; (refine (HPw _).mono ?_); rintro e w' ⟨rfl,rfl⟩)
    go_ret
    exact ⟨rfl,rfl⟩
   ·have h2' : ¬ (K:Int)+1≤(lo:Int):=by omega
    have h3':(hi:Int)≤(K:Int):=by omega
    clear h1 hK hH
    go_enter Tryz.func178,Tryz.ntmps178
    go_wp2_with (go_at_call 179; (refine (HPw _).mono ?_); rintro e w' ⟨rfl,rfl⟩)
    go_ret
    exact ⟨rfl,rfl⟩
  ·rw [tin_whole (by rw [e0]; omega)]
   have h2' : ¬ (K:Int)+1≤(lo:Int):=by omega
   have h3' : ¬ (hi:Int)≤(K:Int):=by omega
   have h4':(lo:Int)≤(K:Int):=by omega
   have h5':(K:Int)+1≤(hi:Int):=by omega
   clear h1 hK hH
   go_enter Tryz.func178,Tryz.ntmps178
   go_wp2_with (go_at_call 179; (refine (HPw _).mono ?_); rintro e w' ⟨rfl,rfl⟩)
   go_ret
   exact ⟨rfl,rfl⟩
 | succ H ih =>
  intro K w hH hK
  obtain ⟨p,hp⟩ : ∃ p,pw (H+1)=p:=⟨_,rfl⟩
  have HPw:=fun W=>pow_anyC W (H+1) hH p hp
  have g2:=half_mid H K
  have g3:=half_hi H K
  have g1:=half_lo H K
  have g4:=blk_len H K
  have hpp:=pw_pos H
  have I1:=fun w'=>ih (2 * K) w' (by omega) (by rw [g2]; omega)
  have I2:=fun w'=>ih (2 * K+1) w' (by omega) (by rw [g3]; omega)
  obtain ⟨a,ha⟩ : ∃ a,K * pw (H+1)=a:=⟨_,rfl⟩
  have hb:(K+1) * pw (H+1)=a+p:=by rw [Nat.add_mul,Nat.one_mul,ha,hp]
  have hKa:K≤a:=by rw [← ha]; exact Nat.le_mul_of_pos_right _ (pw_pos _)
  have l1:=tin_len lo hi H (2 * K)
  have l2:=tin_len lo hi H (2 * K+1)
  have hp40:pw H≤2^40:=by omega
  rw [hb] at hK
  have ea:IntKind.u64.wrap ((K:Int) * (p:Int))=(a:Int):=by rw [show (K:Int) * (p:Int)=(a:Int) by rw [← ha,hp,Int.natCast_mul],IntKind.wrap_u64]; omega
  have eb:IntKind.u64.wrap ((a:Int)+(p:Int))=(a:Int)+(p:Int):=by rw [IntKind.wrap_u64]; omega
  by_cases h1:a+p≤lo∨hi≤a
  ·rw [tin_outC (by rw [hb,ha]; omega)]
   by_cases h2:a+p≤lo
   ·have h2':(a:Int)+(p:Int)≤(lo:Int):=by omega
    clear h1 hK hH ih I1 I2 g1 g2 g3 g4 hpp ha hb hKa l1 l2 hp hp40
    go_enter Tryz.func178,Tryz.ntmps178
    go_wp2_with (go_at_call 179; (refine (HPw _).mono ?_); rintro e w' ⟨rfl,rfl⟩)
    go_ret
    exact ⟨rfl,rfl⟩
   ·have h2' : ¬ (a:Int)+(p:Int)≤(lo:Int):=by omega
    have h3':(hi:Int)≤(a:Int):=by omega
    clear h1 hK hH ih I1 I2 g1 g2 g3 g4 hpp ha hb hKa l1 l2 hp hp40
    go_enter Tryz.func178,Tryz.ntmps178
    go_wp2_with (go_at_call 179; (refine (HPw _).mono ?_); rintro e w' ⟨rfl,rfl⟩)
    go_ret
    exact ⟨rfl,rfl⟩
  ·have h2' : ¬ (a:Int)+(p:Int)≤(lo:Int):=by omega
   have h3' : ¬ (hi:Int)≤(a:Int):=by omega
   by_cases h4:lo≤a∧a+p≤hi
   ·rw [tin_whole (by rw [hb,ha]; exact h4)]
    have h4':(lo:Int)≤(a:Int):=by omega
    have h5':(a:Int)+(p:Int)≤(hi:Int):=by omega
    clear h1 hK hH ih I1 I2 g1 g2 g3 g4 hpp ha hb hKa l1 l2 hp hp40 h4
    go_enter Tryz.func178,Tryz.ntmps178
    go_wp2_with (go_at_call 179; (refine (HPw _).mono ?_); rintro e w' ⟨rfl,rfl⟩)
    go_ret
    exact ⟨rfl,rfl⟩
   ·have ht:(tin lo hi (H+1) K).length=(tin lo hi H (2 * K)).length+(tin lo hi H (2 * K+1)).length:=by
     rw [tin,if_neg (by rw [hb,ha]; exact h4),if_neg (by rw [hb,ha]; exact h1),List.length_append]
    rw [ht]
    generalize (tin lo hi H (2 * K)).length=x at *
    generalize (tin lo hi H (2 * K+1)).length=y at *
    have e1:IntKind.u64.wrap (2 * (K:Int))=((2 * K:Nat):Int):=by rw [IntKind.wrap_u64]; omega
    have e2:IntKind.u64.wrap (((2 * K:Nat):Int)+1)=((2 * K+1:Nat):Int):=by rw [IntKind.wrap_u64]; omega
    have e3:((H+1:Nat):Int) - 1=(H:Int):=by omega
    have e4:IntKind.u64.wrap ((x:Int)+(y:Int))=((x+y:Nat):Int):=by rw [IntKind.wrap_u64]; omega
    have hH1:(H:Int)≤40:=by omega
    have h4' : ¬ (lo:Int)≤(a:Int) ∨ ¬ (a:Int)+(p:Int)≤(hi:Int):=by omega
    clear h1 hK hH ih g1 g2 g3 g4 hpp ha hb hKa l1 l2 hp hp40 h4 ht
    generalize 2 * K=k2 at *
    generalize k2+1=k3 at *
    generalize x+y=z at *
    rcases h4' with h4' | h4'
    ·go_enter Tryz.func178,Tryz.ntmps178
     go_upto_region 7 with (go_at_call 179; (refine (HPw _).mono ?_); rintro e w' ⟨rfl,rfl⟩)
     go_wp2_with (first
      | (go_at_call 178; with_reducible refine (I1 _).mono ?_; rintro e w' ⟨rfl,rfl⟩)
      | (go_at_call 178; with_reducible refine (I2 _).mono ?_; rintro e w' ⟨rfl,rfl⟩))
     all_goals go_ret
     all_goals exact ⟨rfl,rfl⟩
    ·go_enter Tryz.func178,Tryz.ntmps178
     go_upto_region 7 with (go_at_call 179; (refine (HPw _).mono ?_); rintro e w' ⟨rfl,rfl⟩)
     go_wp2_with (first
      | (go_at_call 178; with_reducible refine (I1 _).mono ?_; rintro e w' ⟨rfl,rfl⟩)
      | (go_at_call 178; with_reducible refine (I2 _).mono ?_; rintro e w' ⟨rfl,rfl⟩))
     all_goals go_ret
     all_goals exact ⟨rfl,rfl⟩
theorem within_inb {lo hi H K:Nat} (h1:K * pw H=lo) (h2:(K+1) * pw H=hi):(fun i=>decide (lo≤i) && decide (i<hi))=inb H K:=by
 funext i; rw [inb,h1,h2]
theorem tno_one {H K:Nat} {X:List Nat} (h:(X.filter (inb H K)).length=0):(tno H K X).length=1:=(tno_count H K X).1 h
theorem tno_zero {K:Nat} {X:List Nat} (h:(X.filter (inb 0 K)).length≠0):(tno 0 K X).length=0:=by
 rw [tno,if_neg h]; rfl
theorem tno_two {H K:Nat} {X:List Nat} (h:(X.filter (inb (H+1) K)).length≠0):(tno (H+1) K X).length=(tno H (2 * K) (X.filter (inb (H+1) K))).length+(tno H (2 * K+1) (X.filter (inb (H+1) K))).length:=by
 rw [tno,if_neg h,List.length_append]
set_option maxRecDepth 100000 in
set_option maxHeartbeats 1000000 in
theorem rrest_anyC : ∀ (H K:Nat) (X:List Nat) (w:World) (sa:Option Addr) (sb so sc:Nat),RdU w sa sb so (X.filter (inb H K)).length (X.filter (inb H K))→X.length≤17592186043904→H≤40→(K+1) * pw H≤2^40 →
  Calls Tryz.prog 181 #[.int .i64 (H:Int),.int .u64 (K:Int),.slice sa (X.filter (inb H K)).length sc] w fun e w'=>e = .returned (.int .u64 ((tno H K X).length:Nat))∧Below w.heap.size w w':=by
 intro H
 induction H with
 | zero =>
  intro K X w sa sb so sc rs hX hH hK
  by_cases h0:(X.filter (inb 0 K)).length=0
  ·rw [tno_one h0]
   have h0':(((X.filter (inb 0 K)).length:Int) == 0)=true:=beq_iff_eq.2 (by omega)
   generalize (X.filter (inb 0 K)).length=m at *
   clear rs h0
   go_enter Tryz.func181,Tryz.ntmps181
   go_wp2
   go_ret
   exact ⟨rfl,Below.refl _ _⟩
  ·rw [tno_zero h0]
   have h0':(((X.filter (inb 0 K)).length:Int) == 0)=false:=beq_eq_false_iff_ne.2 (by omega)
   generalize (X.filter (inb 0 K)).length=m at *
   clear rs h0
   go_enter Tryz.func181,Tryz.ntmps181
   go_wp2
   go_ret
   exact ⟨rfl,Below.refl _ _⟩
 | succ H ih =>
  intro K X w sa sb so sc rs hX hH hK
  have hY:(X.filter (inb (H+1) K)).length≤X.length:=List.length_filter_le _ _
  by_cases h0:(X.filter (inb (H+1) K)).length=0
  ·rw [tno_one h0]
   have h0':(((X.filter (inb (H+1) K)).length:Int) == 0)=true:=beq_iff_eq.2 (by omega)
   generalize (X.filter (inb (H+1) K)).length=m at *
   clear rs h0 ih hH hK hX hY
   go_enter Tryz.func181,Tryz.ntmps181
   go_wp2
   go_ret
   exact ⟨rfl,Below.refl _ _⟩
  ·rw [tno_two h0]
   have h0':(((X.filter (inb (H+1) K)).length:Int) == 0)=false:=beq_eq_false_iff_ne.2 (by omega)
   have hh0:(((H+1:Nat):Int) == 0)=false:=beq_eq_false_iff_ne.2 (by omega)
   generalize X.filter (inb (H+1) K)=Y at *
   obtain ⟨p,hp⟩ : ∃ p,pw (H+1)=p:=⟨_,rfl⟩
   obtain ⟨q,hq⟩ : ∃ q,pw H=q:=⟨_,rfl⟩
   have HPw : ∀ W,Calls Tryz.prog 179 #[.int .i64 ((H:Int)+1)] W fun e w'=>e = .returned (.int .u64 (p:Int))∧W=w':=fun W=>pow_anyC W (H+1) hH p hp
   have HPq:=fun W=>pow_anyC W H (by omega) q hq
   have g2:=half_mid H K
   have g3:=half_hi H K
   have g1:=half_lo H K
   have g4:=blk_len H K
   have hpp:=pw_pos H
   obtain ⟨a,ha⟩ : ∃ a,K * pw (H+1)=a:=⟨_,rfl⟩
   have hb:(K+1) * pw (H+1)=a+p:=by rw [Nat.add_mul,Nat.one_mul,ha,hp]
   have hKa:K≤a:=by rw [← ha]; exact Nat.le_mul_of_pos_right _ (pw_pos _)
   have i1:=fun (w':World) (sa':Option Addr) (sb' sc':Nat) hr=>ih (2 * K) Y w' sa' sb' 0 sc' hr (by omega) (by omega) (by rw [g2]; omega)
   have i2:=fun (w':World) (sa':Option Addr) (sb' sc':Nat) hr=>ih (2 * K+1) Y w' sa' sb' 0 sc' hr (by omega) (by omega) (by rw [g3]; omega)
   have f1:(fun i=>decide (a≤i) && decide (i<a+q))=inb H (2 * K):=within_inb (by rw [g1,ha]) (by rw [g2,ha,hq])
   have f2:(fun i=>decide (a+q≤i) && decide (i<a+p))=inb H (2 * K+1):=within_inb (by rw [g2,ha,hq]) (by rw [g3,hb])
   have HR:Hid (∀ F,Below w.heap.size w F→RdU F sa sb so Y.length Y):=fun F hF=>rs.next hF
   have HW1:Hid (∀ F,Below w.heap.size w F→Calls Tryz.prog 180 #[.slice sa Y.length sc,.int .u64 (a:Int),.int .u64 ((a+q:Nat):Int)] F fun e w' => ∃ sa' sb' sc',e = .returned (.slice sa' (Y.filter (inb H (2 * K))).length sc')∧RdU w' sa' sb' 0 (Y.filter (inb H (2 * K))).length (Y.filter (inb H (2 * K)))∧Below F.heap.size F w'):=fun F hF=>(within_any F sa sb so sc Y a (a+q) (HR.out F hF) (by omega)).mono (by
    rintro e w' ⟨v,rfl,o,hb'⟩
    rw [f1] at o
    obtain ⟨ao,b,c,rfl,r,_⟩:=own_read o
    exact ⟨ao,b,c,rfl,r,hb'⟩)
   have HW2:Hid (∀ F,Below w.heap.size w F→Calls Tryz.prog 180 #[.slice sa Y.length sc,.int .u64 ((a+q:Nat):Int),.int .u64 ((a+p:Nat):Int)] F fun e w' => ∃ sa' sb' sc',e = .returned (.slice sa' (Y.filter (inb H (2 * K+1))).length sc')∧RdU w' sa' sb' 0 (Y.filter (inb H (2 * K+1))).length (Y.filter (inb H (2 * K+1)))∧Below F.heap.size F w'):=fun F hF=>(within_any F sa sb so sc Y (a+q) (a+p) (HR.out F hF) (by omega)).mono (by
    rintro e w' ⟨v,rfl,o,hb'⟩
    rw [f2] at o
    obtain ⟨ao,b,c,rfl,r,_⟩:=own_read o
    exact ⟨ao,b,c,rfl,r,hb'⟩)
   have l1:=tno_len H (2 * K) Y
   have l2:=tno_len H (2 * K+1) Y
   have hp40:pw H≤2^40:=by omega
   rw [hb] at hK
   have hqp:q+q=p:=by rw [← hq,← hp,pw_succ]; omega
   rw [hq] at l1 l2 hp40
   have e40:(2:Nat)^40=1099511627776:=by decide
   rw [e40] at hK hp40
   generalize (Y.filter (inb H (2 * K)))=Y1 at *
   generalize (Y.filter (inb H (2 * K+1)))=Y2 at *
   generalize (tno H (2 * K) Y).length=x at *
   generalize (tno H (2 * K+1) Y).length=y at *
   have I1:Hid (∀ (w':World) (sa':Option Addr) (sb' sc':Nat),RdU w' sa' sb' 0 Y1.length Y1→Calls Tryz.prog 181 #[.int .i64 (H:Int),.int .u64 ((2 * K:Nat):Int),.slice sa' Y1.length sc'] w' fun e w''=>e = .returned (.int .u64 (x:Int))∧Below w'.heap.size w' w''):=i1
   have I2:Hid (∀ (w':World) (sa':Option Addr) (sb' sc':Nat),RdU w' sa' sb' 0 Y2.length Y2→Calls Tryz.prog 181 #[.int .i64 (H:Int),.int .u64 ((2 * K+1:Nat):Int),.slice sa' Y2.length sc'] w' fun e w''=>e = .returned (.int .u64 (y:Int))∧Below w'.heap.size w' w''):=i2
   have ea:IntKind.u64.wrap ((K:Int) * (p:Int))=(a:Int):=by rw [show (K:Int) * (p:Int)=(a:Int) by rw [← ha,hp,Int.natCast_mul],IntKind.wrap_u64]; omega
   have eb:IntKind.u64.wrap ((a:Int)+(p:Int))=((a+p:Nat):Int):=by rw [IntKind.wrap_u64]; omega
   have eq':IntKind.u64.wrap ((a:Int)+(q:Int))=((a+q:Nat):Int):=by rw [IntKind.wrap_u64]; omega
   have e1:IntKind.u64.wrap (2 * (K:Int))=((2 * K:Nat):Int):=by rw [IntKind.wrap_u64]; omega
   have e2:IntKind.u64.wrap (((2 * K:Nat):Int)+1)=((2 * K+1:Nat):Int):=by rw [IntKind.wrap_u64]; omega
   have e3:((H+1:Nat):Int) - 1=(H:Int):=by omega
   have e4:IntKind.u64.wrap ((x:Int)+(y:Int))=((x+y:Nat):Int):=by rw [IntKind.wrap_u64]; omega
   have hH1:(H:Int)≤40:=by omega
   clear ih i1 i2 g1 g2 g3 g4 hpp ha hb hKa l1 l2 hp hq hp40 f1 f2 h0 rs hX hY hK hqp hH HR e40
   generalize 2 * K=k2 at *
   generalize k2+1=k3 at *
   generalize x+y=z at *
   generalize a+q=aq at *
   generalize a+p=ap at *
   generalize Y.length=m at *
   go_enter Tryz.func181,Tryz.ntmps181
   go_upto_region 7 with (first
    | (go_at_call 179; with_reducible refine (HPw _).mono ?_; rintro e w' ⟨rfl,rfl⟩)
    | (go_at_call 179; with_reducible refine (HPq _).mono ?_; rintro e w' ⟨rfl,rfl⟩))
   go_wp2_with (first
    | (go_at_call 180; with_reducible refine (HW1.out _ (Below.refl _ _)).mono ?_; rintro e w1 ⟨ta,tb,tc,rfl,r1,b1⟩)
    | (go_at_call 181; with_reducible refine (I1.out _ _ _ _ r1).mono ?_; rintro e w2 ⟨rfl,b2⟩; (have b3:=bnext b1 b2); clear b1 b2)
    | (go_at_call 179; with_reducible refine (HPw _).mono ?_; rintro e w' ⟨rfl,rfl⟩)
    | (go_at_call 180; with_reducible refine (HW2.out _ b3).mono ?_; rintro e w4 ⟨ua,ub,uc,rfl,r2,b4⟩)
    | (go_at_call 181; with_reducible refine (I2.out _ _ _ _ r2).mono ?_; rintro e w5 ⟨rfl,b5⟩))
   go_ret
   exact ⟨rfl,bnext (bnext b3 b4) b5⟩
end Go.Proofs.YtipcenbndhnnhaaGreatDoor.Cv
