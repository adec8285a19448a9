/- Own work. -/
import Derived.Test.YtipcenbndhnnhaaGreatDoorQc27
import Derived.Test.YtipcenbndhnnhaaGreatDoorQc28
namespace Go.Proofs.YtipcenbndhnnhaaGreatDoor
open Cv Pl
open Go.RowKit
attribute [local go_sem ↓] Go.wp_at_zero Go.wp_at_succ
structure Mt (w:World) (ao:Option Addr) (g:Nat) (L:List (Nat×Nat)):Prop where
 addr:0<L.length→ao=some ⟨g,0,none⟩
 cell : ∀ j,j<L.length→w.cell? ⟨g,j * 2,none⟩=some (.int .i64 ((L.getD j (0,0)).1:Nat))∧w.cell? ⟨g,j * 2+1,none⟩=some (.int .u64 ((L.getD j (0,0)).2:Nat))
theorem Mt.next {w w':World} {ao:Option Addr} {g:Nat} {L:List (Nat×Nat)} (r:Mt w ao g L) (h:Below w.heap.size w w'):Mt w' ao g L :=
 ⟨r.addr,fun j hj=>⟨(h.cell (p:=⟨g,j * 2,none⟩) (World.block_lt_of_cell? w _ (r.cell j hj).1)).trans (r.cell j hj).1,(h.cell (p:=⟨g,j * 2+1,none⟩) (World.block_lt_of_cell? w _ (r.cell j hj).2)).trans (r.cell j hj).2⟩⟩
theorem zl_getDC (L:List (Nat×Nat)) (j:Nat):(zl L).getD j (0,0)=(((L.getD j (0,0)).1:Int),(L.getD j (0,0)).2):=by
 by_cases h:j<L.length
 ·simp [zl,List.getD_eq_getElem?_getD,List.getElem?_eq_getElem h]
 ·simp [zl,List.getD_eq_getElem?_getD,List.getElem?_eq_none (Nat.le_of_not_lt h)]
theorem mt_own {w:World} {B:Nat} {v:Value} {L:List (Nat×Nat)} (h:OwnB w B v (zl L)) : ∃ ao g cap,v = .slice ao L.length cap∧Mt w ao g L:=by
 have h0:=h
 obtain ⟨h1,h2⟩:=h
 rcases h2 with ⟨rfl,h2⟩ | ⟨g,cap,cur,rfl,hg,hh,hc1,hc2,hc3,hc4⟩
 ·rw [zl_len] at h2
  exact ⟨none,0,0,by rw [h2],⟨fun h=>absurd h (by omega),fun j hj=>absurd hj (by omega)⟩⟩
 ·refine ⟨some ⟨g,0,none⟩,g,cap,by rw [zl_len],⟨fun _=>rfl,fun j hj => ?_⟩⟩
  have hcl:=h0.cells (g:=g) rfl
  have hj':j<(zl L).length:=by rw [zl_len]; exact hj
  have hget:(zl L)[j]? = some (((L.getD j (0,0)).1:Int),(L.getD j (0,0)).2):=by
   rw [← zl_getDC,List.getElem?_eq_getElem hj',List.getD_eq_getElem?_getD,List.getElem?_eq_getElem hj']; rfl
  obtain ⟨e1,e2⟩:=cB_get (zl L) j _ _ hget
  have f1:=hcl _ _ e1
  have f2:=hcl _ _ e2
  rw [Addr.add_mid,Nat.zero_add,Nat.mul_comm] at f1 f2
  exact ⟨f1,f2⟩
theorem mounts_read (n:Nat) (w:World) (hn:n≤2^40) :
  Calls Tryz.prog 177 #[.int .u64 (n:Int)] w fun e w' => ∃ ao g cap,e = .returned (.slice ao (dnL 41 0 n).length cap)∧Mt w' ao g (dnL 41 0 n)∧Below w.heap.size w w':=by
 refine (rmounts_anyC n w hn).mono ?_
 rintro e w' ⟨v,rfl,o,hb⟩
 obtain ⟨ao,g,cap,rfl,r⟩:=mt_own o
 exact ⟨ao,g,cap,rfl,r,hb⟩
theorem dn_mem (hi:Nat) : ∀ h lo,(∃ c,lo=c * pw h)→lo≤hi → ∀ b∈dnL h lo hi,b.1<h∧(b.2+1) * pw b.1≤hi:=by
 intro h
 induction h with
 | zero=>intro lo _ _ b hb; cases hb
 | succ h ih =>
  intro lo ⟨c,hc⟩ hl b hb
  have e1:lo=(2 * c) * pw h:=by rw [hc,half_lo]
  have e2:lo+pw h=(2 * c+1) * pw h:=by rw [half_mid,← hc]
  by_cases hf:pw h≤hi - lo
  ·rw [dn_yes hf] at hb
   rcases List.mem_cons.1 hb with rfl | hb
   ·refine ⟨Nat.lt_succ_self _,?_⟩
    have:lo / pw h=2 * c:=by rw [e1]; exact Nat.mul_div_cancel _ (pw_pos h)
    show (lo / pw h+1) * pw h≤hi
    rw [this,← e2]; omega
   ·have:=ih (lo+pw h) ⟨_,e2⟩ (by omega) b hb
    exact ⟨by omega,this.2⟩
  ·rw [dn_no hf] at hb
   have:=ih lo ⟨_,e1⟩ hl b hb
   exact ⟨by omega,this.2⟩
theorem dn_at {n j:Nat} (hj:j<(dnL 41 0 n).length):((dnL 41 0 n).getD j (0,0)).1≤40∧(((dnL 41 0 n).getD j (0,0)).2+1) * pw ((dnL 41 0 n).getD j (0,0)).1≤n:=by
 have hm:(dnL 41 0 n).getD j (0,0)∈dnL 41 0 n:=by
  rw [List.getD_eq_getElem?_getD,List.getElem?_eq_getElem hj]; exact List.getElem_mem _
 have:=dn_mem n 41 0 ⟨0,by simp⟩ (Nat.zero_le _) _ hm
 exact ⟨by omega,this.2⟩
def gl (f:Nat×Nat→List (Nat×Nat)) (L:List (Nat×Nat)) (j:Nat):Nat:=((L.take j).flatMap f).length
theorem gl_zero (f:Nat×Nat→List (Nat×Nat)) (L:List (Nat×Nat)):gl f L 0=0:=by simp [gl]
theorem gl_all (f:Nat×Nat→List (Nat×Nat)) (L:List (Nat×Nat)):gl f L L.length=(L.flatMap f).length:=by rw [gl,List.take_length]
theorem gl_next (f:Nat×Nat→List (Nat×Nat)) (L:List (Nat×Nat)) {j:Nat} (hj:j<L.length):gl f L (j+1)=gl f L j+(f (L.getD j (0,0))).length:=by
 have:L.take (j+1)=L.take j++[L.getD j (0,0)]:=by
  rw [List.take_add_one,List.getElem?_eq_getElem hj,List.getD_eq_getElem?_getD,List.getElem?_eq_getElem hj]; rfl
 rw [gl,gl,this,List.flatMap_append,List.length_append]; simp
theorem gl_le (f:Nat×Nat→List (Nat×Nat)) (L:List (Nat×Nat)) (j:Nat):gl f L j≤(L.flatMap f).length:=by
 have:L.flatMap f=(L.take j).flatMap f++(L.drop j).flatMap f:=by rw [← List.flatMap_append,List.take_append_drop]
 rw [gl,this,List.length_append]; omega
section
variable (w:World) (kd k:Int) (old size:Nat) (sa:Option Addr) (sb so sc:Nat) (S:List Nat) (dv:Value)
set_option maxRecDepth 100000 in
set_option maxHeartbeats 4000000 in
theorem rcount_no (rs:RdU w sa sb so S.length S) (hS:S.length≤17592186044416) (hc:cnt kd k old size S=none) :
  Calls Tryz.prog 162 #[pv6 kd k old size (.slice sa S.length sc) dv] w fun e w'=>e = .returned (cV none)∧Below w.heap.size w w':=by
 obtain ⟨W0,hW,h6,hb,hz⟩:=box6 w (.int .i64 kd) (.int .i64 k) (.int .u64 (old:Int)) (.int .u64 (size:Int)) (.slice sa S.length sc) dv
 have HN:=rnumbers_any W0 kd k old size sa sb so sc S dv (rs.next hb) hS
 rw [hc] at HN
 simp only [pv6,Option.isSome] at HN
 obtain ⟨e0,e1,e2,e3,e4,e5⟩:=h6.cells
 have HB:=hideC hb
 clear h6 hb hz rs hc hS
 generalize S.length=ms at *
 simp only [pv6,cV]
 go_enter Tryz.func162,Tryz.ntmps162
 go_wp2_with (go_at_call 176; (try rw [hW]); with_reducible refine HN.mono ?_; rintro x w1 ⟨rfl,hb1⟩)
 go_ret2
 exact ⟨rfl,bnext HB.out hb1⟩
set_option maxRecDepth 100000 in
set_option maxHeartbeats 4000000 in
theorem rcount_kin (hn:size≤2^40) (hk:1≤k∧k≤32) (ho:old≤size) :
  Calls Tryz.prog 162 #[pv6 3 k old size (.slice sa 0 sc) dv] w fun e w'=>e = .returned (cV (cnt 3 k old size []))∧Below w.heap.size w w':=by
 obtain ⟨W0,hW,h6,hb,hz⟩:=box6 w (.int .i64 3) (.int .i64 k) (.int .u64 (old:Int)) (.int .u64 (size:Int)) (.slice sa 0 sc) dv
 have hc:cnt 3 k old size []=some ((cov 0 old).length+(cov old size).length):=by rw [cnt_kin ⟨hk.1,hk.2,hn⟩,if_pos ⟨ho,rfl⟩]
 have hok:=(cnt_ok hc).hc
 have HN:=rnumbers_any W0 3 k old size sa 0 0 sc [] dv ⟨rfl,fun h=>absurd h (by decide),fun j v h=>by cases h⟩ (by decide)
 rw [hc] at HN ⊢
 rw [cov_zero old (by omega),range_ref old size size ho (Nat.le_refl _) hn] at hok ⊢
 simp only [pv6,Option.isSome,List.length_nil] at HN
 have HM:=fun F=>mounts_read size F hn
 have HM2:=fun F=>mounts_read old F (by omega)
 have HSp:Hid (∀ (F:World) (j:Nat),j<(dnL 41 0 size).length→Calls Tryz.prog 178 #[.int .i64 ((((dnL 41 0 size).getD j (0,0)).1:Nat):Int),.int .u64 ((((dnL 41 0 size).getD j (0,0)).2:Nat):Int),.int .u64 (old:Int),.int .u64 (size:Int)] F fun e w'=>e = .returned (.int .u64 (((fun b:Nat×Nat=>tin old size b.1 b.2) ((dnL 41 0 size).getD j (0,0))).length:Nat))∧w'=F):=fun F j hj=>by
  have:=dn_at hj
  exact rspan_anyC old size _ _ F this.1 (by omega)
 have hL:=dn_len 41 0 size
 have hL2:=dn_len 41 0 old
 have HX:Hid (∀ F,Below W0.heap.size W0 F→Six F w.heap.size (.int .i64 3) (.int .i64 k) (.int .u64 (old:Int)) (.int .u64 (size:Int)) (.slice sa 0 sc) dv∧Below w.heap.size w F):=fun F hF=>⟨h6.next hF,bnext hb hF⟩
 obtain ⟨e0,e1,e2,e3,e4,e5⟩:=h6.cells
 generalize hLL:dnL 41 0 size=L at *
 generalize (dnL 41 0 old).length=n0 at *
 generalize hf:(fun b:Nat×Nat=>tin old size b.1 b.2)=f at *
 have hl1:(L.length:Int)≤41:=by omega
 have hn0:(n0:Int)≤41:=by omega
 have en0:IntKind.u64.wrap (n0:Int)=(n0:Int):=by rw [IntKind.wrap_u64]; omega
 have HOK:Hid (n0+(L.flatMap f).length≤1099511627776):=hok
 clear h6 hb hz hc hn hk ho hok hL hL2 hLL hf
 simp only [pv6,cV]
 go_enter Tryz.func162,Tryz.ntmps162
 go_upto_region 3 with (go_at_call 176; (try rw [hW]); with_reducible refine HN.mono ?_; rintro x w1 ⟨rfl,hb1⟩)
 obtain ⟨x1,x2⟩:=HX.out _ hb1
 obtain ⟨_,_,_,e3,_,_⟩:=x1.cells
 clear hW HN x1 x2
 go_upto_region 5 with (go_at_call 177; with_reducible refine (HM _).mono ?_; rintro x w2 ⟨ao,g,cap,rfl,mt,hb2⟩)
 obtain ⟨x1,x2⟩:=HX.out _ (bnext hb1 hb2)
 obtain ⟨e0,_,e2,_,_,_⟩:=x1.cells
 clear HM e3 x1 x2
 go_upto_region 7 with (go_at_call 177; with_reducible refine (HM2 _).mono ?_; rintro x w3 ⟨ao',g',cap',rfl,_,hb3⟩)
 have HF:Hid (∀ F,Below w3.heap.size w3 F→Mt F ao g L∧Six F w.heap.size (.int .i64 3) (.int .i64 k) (.int .u64 (old:Int)) (.int .u64 (size:Int)) (.slice sa 0 sc) dv∧Below w.heap.size w F):=fun F hF=>⟨(mt.next hb3).next hF,HX.out _ (bnext (bnext (bnext hb1 hb2) hb3) hF)⟩
 clear mt hb1 hb2 hb3 HX HM2 e0 e2
 go_wp2
 go_loopg [5,6] L.length (fun gk n i wr => ∃ j:Nat,j≤L.length∧gk=L.length - j∧i = .int .i64 (j:Int)∧n = .int .u64 ((n0+gl f L j:Nat):Int)∧Hid (Below w3.heap.size w3 wr))
 case atStart =>
  go_light
  exact ⟨0,Nat.zero_le _,rfl,rfl,by rw [gl_zero]; rfl,Below.refl _ _⟩
 case round =>
  obtain ⟨j,hj,rfl,rfl,rfl,HI⟩:=hrel
  obtain ⟨mt,x6,hbw⟩:=HF.out wr HI.out
  have hj0:(0:Int)≤(j:Int):=Int.natCast_nonneg _
  by_cases hlt:j<L.length
  ·have hlt':(j:Int)<(L.length:Int):=by omega
   obtain rfl:=mt.addr (by omega)
   obtain ⟨c1,c2⟩:=mt.cell j hlt
   obtain ⟨_,_,e2,e3,_,_⟩:=x6.cells
   have HS1:=fun F=>HSp.out F j hlt
   have hg:=gl_next f L hlt
   have hgl:=gl_le f L (j+1)
   obtain ⟨x,hx⟩ : ∃ x,(f (L.getD j (0,0))).length=x:=⟨_,rfl⟩
   rw [hx] at HS1 hg
   generalize (L.getD j (0,0)).1=bh at *
   generalize (L.getD j (0,0)).2=bk at *
   have ez:IntKind.u64.wrap (((n0+gl f L j:Nat):Int)+(x:Int))=((n0+gl f L (j+1):Nat):Int):=by rw [IntKind.wrap_u64]; have:=HOK.out; omega
   generalize n0+gl f L j=z0 at *
   obtain ⟨z1,hz1⟩ : ∃ z1,n0+gl f L (j+1)=z1:=⟨_,rfl⟩
   rw [hz1] at ez
   have HZ:=hideC hz1
   clear hz1
   clear mt x6 hg hgl hx
   go_wp2
   go_quiet ((go_at_call 178; refine Calls.quiet_of_same (HS1 _)))
   go_wp2
   go_roundg (L.length - (j+1))
   case rel =>
    go_light
    exact ⟨j+1,hlt,rfl,by go_num,HZ.out ▸ rfl,below_drewN HI.out _⟩
   case measure=>go_light; omega
  ·obtain rfl:j=L.length:=by omega
   have hlt' : ¬ (L.length:Int)<(L.length:Int):=by omega
   rw [gl_all]
   have HB:=hideC hbw
   clear mt x6 hbw
   go_wp2
   go_ret2
   exact ⟨rfl,HB.out⟩
set_option maxRecDepth 100000 in
set_option maxHeartbeats 4000000 in
theorem rcount_set (rs:RdU w sa sb so S.length S) (hkd:kd≠3) (c:Nat) (hc:cnt kd k old size S=some c) :
  Calls Tryz.prog 162 #[pv6 kd k old size (.slice sa S.length sc) dv] w fun e w'=>e = .returned (cV (some c))∧Below w.heap.size w w':=by
 obtain ⟨W0,hW,h6,hb,hz⟩:=box6 w (.int .i64 kd) (.int .i64 k) (.int .u64 (old:Int)) (.int .u64 (size:Int)) (.slice sa S.length sc) dv
 have ho:=cnt_ok hc
 have hn:=ho.hsz
 have hok:=ho.hc
 have hlen:=ho.len
 have hc2:c=(rst 0 size S).length:=by
  have g1:=ho.kd1
  have g3:=ho.kd3
  have g4:=ho.k1
  have g5:=ho.k32
  have hk:1≤k∧k≤32∧size≤2^40:=⟨g4,g5,hn⟩
  rcases (show kd=1∨kd=2 by omega) with rfl | rfl
  ·rw [cnt_path hk] at hc; split at hc
   ·exact (Option.some.inj hc).symm
   ·cases hc
  ·rw [cnt_batch hk] at hc; split at hc
   ·exact (Option.some.inj hc).symm
   ·cases hc
 have HN:=rnumbers_any W0 kd k old size sa sb so sc S dv (rs.next hb) (by omega)
 rw [hc] at HN
 rw [hc2] at hok ⊢
 rw [rest_ref size S hn ho.chain] at hok ⊢
 simp only [pv6,Option.isSome] at HN
 have HM:=fun F=>mounts_read size F hn
 have HPw:Hid (∀ j,j<(dnL 41 0 size).length → ∃ a p,((dnL 41 0 size).getD j (0,0)).2 * pw ((dnL 41 0 size).getD j (0,0)).1=a∧pw ((dnL 41 0 size).getD j (0,0)).1=p∧a+p≤1099511627776∧((dnL 41 0 size).getD j (0,0)).1≤40∧(((dnL 41 0 size).getD j (0,0)).2+1) * pw ((dnL 41 0 size).getD j (0,0)).1=a+p):=fun j hj=>by
  have:=dn_at hj
  rw [Nat.add_mul,Nat.one_mul] at this
  exact ⟨_,_,rfl,rfl,by omega,this.1,by rw [Nat.add_mul,Nat.one_mul]⟩
 have HRs:Hid (∀ (F:World) (j:Nat) (ta:Option Addr) (tb tc:Nat),j<(dnL 41 0 size).length→RdU F ta tb 0 (S.filter (inb ((dnL 41 0 size).getD j (0,0)).1 ((dnL 41 0 size).getD j (0,0)).2)).length (S.filter (inb ((dnL 41 0 size).getD j (0,0)).1 ((dnL 41 0 size).getD j (0,0)).2))→Calls Tryz.prog 181 #[.int .i64 ((((dnL 41 0 size).getD j (0,0)).1:Nat):Int),.int .u64 ((((dnL 41 0 size).getD j (0,0)).2:Nat):Int),.slice ta (S.filter (inb ((dnL 41 0 size).getD j (0,0)).1 ((dnL 41 0 size).getD j (0,0)).2)).length tc] F fun e w'=>e = .returned (.int .u64 (((fun b:Nat×Nat=>tno b.1 b.2 S) ((dnL 41 0 size).getD j (0,0))).length:Nat))∧Below F.heap.size F w'):=fun F j ta tb tc hj hr=>by
  have:=dn_at hj
  exact rrest_anyC _ _ S F ta tb 0 tc hr (by omega) this.1 (by omega)
 have hL:=dn_len 41 0 size
 have HX:Hid (∀ F,Below W0.heap.size W0 F→Six F w.heap.size (.int .i64 kd) (.int .i64 k) (.int .u64 (old:Int)) (.int .u64 (size:Int)) (.slice sa S.length sc) dv∧RdU F sa sb so S.length S∧Below w.heap.size w F):=fun F hF=>⟨h6.next hF,rs.next (bnext hb hF),bnext hb hF⟩
 have HWi:Hid (∀ F,RdU F sa sb so S.length S → ∀ lo hi H K,K * pw H=lo→(K+1) * pw H=hi→Calls Tryz.prog 180 #[.slice sa S.length sc,.int .u64 (lo:Int),.int .u64 (hi:Int)] F fun e w' => ∃ sa' sb' sc',e = .returned (.slice sa' (S.filter (inb H K)).length sc')∧RdU w' sa' sb' 0 (S.filter (inb H K)).length (S.filter (inb H K))∧Below F.heap.size F w'):=fun F hF lo hi H K h1 h2=>(within_any F sa sb so sc S lo hi hF (by omega)).mono (by
  rintro e w' ⟨v,rfl,o,hb'⟩
  rw [within_inb h1 h2] at o
  obtain ⟨ao,b,c,rfl,r,_⟩:=own_read o
  exact ⟨ao,b,c,rfl,r,hb'⟩)
 obtain ⟨e0,e1,e2,e3,e4,e5⟩:=h6.cells
 have f3:(kd == 3)=false:=beq_eq_false_iff_ne.2 hkd
 generalize hLL:dnL 41 0 size=L at *
 generalize hf:(fun b:Nat×Nat=>tno b.1 b.2 S)=f at *
 have hl1:(L.length:Int)≤41:=by omega
 have HOK:Hid ((L.flatMap f).length≤1099511627776):=hok
 clear h6 hb hz hc hc2 hn ho hok hL hLL hf hlen rs hkd
 simp only [pv6,cV]
 go_enter Tryz.func162,Tryz.ntmps162
 go_upto_region 3 with (go_at_call 176; (try rw [hW]); with_reducible refine HN.mono ?_; rintro x w1 ⟨rfl,hb1⟩)
 obtain ⟨x1,x2⟩:=HX.out _ hb1
 obtain ⟨_,_,_,e3,_,_⟩:=x1.cells
 clear hW HN x1 x2
 go_upto_region 5 with (go_at_call 177; with_reducible refine (HM _).mono ?_; rintro x w2 ⟨ao,g,cap,rfl,mt,hb2⟩)
 obtain ⟨x1,x2⟩:=HX.out _ (bnext hb1 hb2)
 obtain ⟨e0,_,_,_,_,_⟩:=x1.cells
 have HF:Hid (∀ F,Below w2.heap.size w2 F→Mt F ao g L∧Six F w.heap.size (.int .i64 kd) (.int .i64 k) (.int .u64 (old:Int)) (.int .u64 (size:Int)) (.slice sa S.length sc) dv∧RdU F sa sb so S.length S∧Below w.heap.size w F):=fun F hF=>⟨mt.next hF,HX.out _ (bnext (bnext hb1 hb2) hF)⟩
 clear HM e3 x1 x2 mt hb1 hb2 HX
 go_wp2
 clear e0
 go_loopg [5,7,8,9] L.length (fun gk n i _ _ wr => ∃ j:Nat,j≤L.length∧gk=L.length - j∧i = .int .i64 (j:Int)∧n = .int .u64 ((gl f L j:Nat):Int)∧Hid (Below w2.heap.size w2 wr))
 case atStart =>
  go_light
  exact ⟨0,Nat.zero_le _,rfl,rfl,by rw [gl_zero]; rfl,Below.refl _ _⟩
 case round =>
  obtain ⟨j,hj,rfl,rfl,rfl,HI⟩:=hrel
  obtain ⟨mt,x6,rs,hbw⟩:=HF.out wr HI.out
  have hj0:(0:Int)≤(j:Int):=Int.natCast_nonneg _
  by_cases hlt:j<L.length
  ·have hlt':(j:Int)<(L.length:Int):=by omega
   obtain rfl:=mt.addr (by omega)
   obtain ⟨c1,c2⟩:=mt.cell j hlt
   obtain ⟨_,_,_,_,e4,_⟩:=x6.cells
   obtain ⟨a,p,h1,h2,h3,h4,h5⟩:=HPw.out j hlt
   have HR1:=fun F ta tb tc=>HRs.out F j ta tb tc hlt
   have hg:=gl_next f L hlt
   have hgl:=gl_le f L (j+1)
   obtain ⟨x,hx⟩ : ∃ x,(f (L.getD j (0,0))).length=x:=⟨_,rfl⟩
   rw [hx] at HR1 hg
   have HC:Hid (∀ F,Below w2.heap.size w2 F→F.cell? ⟨g,j * 2,none⟩=some (.int .i64 (((L.getD j (0,0)).1:Nat):Int))∧F.cell? ⟨g,j * 2+1,none⟩=some (.int .u64 (((L.getD j (0,0)).2:Nat):Int))∧F.cell? ⟨w.heap.size,4,none⟩=some (.slice sa S.length sc)):=fun F hF=>by
    obtain ⟨k1,k2,_,_⟩:=HF.out F hF
    exact ⟨(k1.cell j hlt).1,(k1.cell j hlt).2,k2.cells.2.2.2.2.1⟩
   generalize (L.getD j (0,0)).1=bh at *
   generalize (L.getD j (0,0)).2=bk at *
   have HP : ∀ F,Calls Tryz.prog 179 #[.int .i64 (bh:Int)] F fun e w'=>e = .returned (.int .u64 (p:Int))∧w'=F:=fun F=>(pow_anyC F bh h4 p h2).mono (fun _ _ h=>⟨h.1,h.2.symm⟩)
   have HW1:=fun F (hF:Below w2.heap.size w2 F)=>HWi.out F (HF.out F hF).2.2.1 a (a+p) bh bk h1 h5
   have ez:IntKind.u64.wrap (((gl f L j:Nat):Int)+(x:Int))=((gl f L (j+1):Nat):Int):=by rw [IntKind.wrap_u64]; have:=HOK.out; omega
   have ea:IntKind.u64.wrap ((bk:Int) * (p:Int))=(a:Int):=by rw [show (bk:Int) * (p:Int)=(a:Int) by rw [← h1,h2,Int.natCast_mul],IntKind.wrap_u64]; omega
   have eb:IntKind.u64.wrap ((a:Int)+(p:Int))=((a+p:Nat):Int):=by rw [IntKind.wrap_u64]; omega
   have h40:(bh:Int)≤40:=by omega
   generalize gl f L j=z0 at *
   obtain ⟨z1,hz1⟩ : ∃ z1,gl f L (j+1)=z1:=⟨_,rfl⟩
   rw [hz1] at ez
   have HZ:=hideC hz1
   have HW:=hideC HW1
   have HR:=hideC HR1
   generalize a+p=ap at *
   generalize S.filter (inb bh bk)=T at *
   clear mt x6 hg hgl hx hz1 HR1 HW1 rs hbw h1 h2 h3 h4 h5 HPw HRs HWi
   go_upto_region 15 with (fail)
   go_quiet ((go_at_call 179; refine Calls.quiet_of_same (HP _)))
   go_upto_region 16 with (fail)
   obtain ⟨Z0,hZ0⟩ : ∃ Z0,wr.drewN nq=Z0:=⟨_,rfl⟩
   have hB0:Below w2.heap.size w2 Z0:=by rw [← hZ0]; exact below_drewN HI.out _
   rw [hZ0]
   clear hZ0 c1 c2 e4
   have hBd:Below w2.heap.size w2 Z0.drew:=bnext hB0 ((Below.refl Z0.heap.size Z0).drew)
   obtain ⟨q1,q2,q4⟩:=HC.out _ hBd
   go_region_held3 (fun Z=>Z.cell? ⟨g,j * 2,none⟩=some (.int .i64 (bh:Int))∧Z.cell? ⟨g,j * 2+1,none⟩=some (.int .u64 (bk:Int))∧Z.cell? ⟨w.heap.size,4,none⟩=some (.slice sa S.length sc)) (first | assumption | (exact HC.out _ hBd) | (exact HC.out _ (bnext hBd hb5))) (first
    | (go_at_call 179; with_reducible refine (HP _).mono ?_; rintro e w' ⟨rfl,rfl⟩)
    | (go_at_call 180; with_reducible refine (HW.out _ hBd).mono ?_; rintro e w5 ⟨ta,tb,tc,rfl,r5,hb5⟩))
   all_goals
    have hB5:=bnext hBd hb5
    clear q1 q2 q4 hb5
    go_upto_region 17 with (fail)
    have hd5:=(Below.refl w5.heap.size w5).drew
    have r6:=r5.next hd5
    have hB6:=bnext hB5 hd5
    obtain ⟨q1,q2,q4⟩:=HC.out _ hB6
    clear r5 hd5 hB5 hBd
    go_region_held3 (fun Z=>Z.cell? ⟨g,j * 2,none⟩=some (.int .i64 (bh:Int))∧Z.cell? ⟨g,j * 2+1,none⟩=some (.int .u64 (bk:Int))∧Z.cell? ⟨w.heap.size,4,none⟩=some (.slice sa S.length sc)) (first | assumption | (exact HC.out _ hB6) | (exact HC.out _ (bnext hB6 hb7))) (first
     | (go_at_call 181; with_reducible refine (HR.out _ _ _ _ r6).mono ?_; rintro e w7 ⟨rfl,hb7⟩))
    all_goals
     have HB7:=hideC (bnext hB6 hb7)
     clear q1 q2 q4 hb7 hB6 r6 HC HF
     go_wp2
     go_roundg (L.length - (j+1))
     case rel =>
      go_light
      exact ⟨j+1,hlt,rfl,by go_num,HZ.out ▸ rfl,HB7⟩
     case measure=>go_light; omega
  ·obtain rfl:j=L.length:=by omega
   have hlt' : ¬ (L.length:Int)<(L.length:Int):=by omega
   rw [gl_all]
   have HB:=hideC hbw
   clear mt x6 hbw rs
   go_wp2
   go_ret2
   exact ⟨rfl,HB.out⟩
theorem rcount_any (rs:RdU w sa sb so S.length S) (hS:S.length≤17592186044416) :
  Calls Tryz.prog 162 #[pv6 kd k old size (.slice sa S.length sc) dv] w fun e w'=>e = .returned (cV (cnt kd k old size S))∧Below w.heap.size w w':=by
 rcases hc:cnt kd k old size S with _ | c
 ·exact rcount_no w kd k old size sa sb so sc S dv rs hS hc
 ·by_cases h3:kd=3
  ·subst h3
   have ho:=cnt_ok hc
   have hS0:=ho.three rfl
   subst hS0
   have:=rcount_kin w k old size sa sc dv ho.hsz ⟨ho.k1,ho.k32⟩ ho.hold
   rw [hc] at this
   exact this
  ·exact rcount_set w kd k old size sa sb so sc S dv rs h3 c hc
end
end Go.Proofs.YtipcenbndhnnhaaGreatDoor
namespace Go.Proofs.YtipcenbndhnnhaaGreatDoor
open Go.RowKit
attribute [local go_sem ↓] Go.wp_at_zero Go.wp_at_succ
section
variable (w:World) (sa:Option Addr) (sb so sc:Nat) (da:Option Addr) (db dO dc:Nat) (P:PV)
set_option maxRecDepth 100000 in
set_option maxHeartbeats 4000000 in
theorem rwell_any (hp:RdPC w sa sb so sc da db dO dc P) :
  Calls Tryz.prog 131 #[pvP P sa sc da dc] w fun e w'=>e = .returned (.bool (decide (Well P)))∧Below w.heap.size w w':=by
 obtain ⟨W,hW,h6,hb,_⟩:=box6 w (.int .i64 P.kd) (.int .i64 P.k) (.int .u64 (P.old:Int)) (.int .u64 (P.size:Int)) (.slice sa P.S.length sc) (.slice da P.D.length dc)
 have HC:=rcount_any W P.kd P.k P.old P.size sa sb so sc P.S (.slice da P.D.length dc) (hp.rs.next hb) hp.mS
 have HX:Hid (∀ F,Below W.heap.size W F→Six F w.heap.size (.int .i64 P.kd) (.int .i64 P.k) (.int .u64 (P.old:Int)) (.int .u64 (P.size:Int)) (.slice sa P.S.length sc) (.slice da P.D.length dc)∧RdS F da db dO P.D.length P.D∧Below w.heap.size w F):=fun F hF=>⟨h6.next hF,(hp.next (bnext hb hF)).rd,bnext hb hF⟩
 obtain ⟨e0,e1,e2,e3,e4,e5⟩:=h6.cells
 have hm:P.D.length≤8796093022208:=hp.mD
 have hm':(P.D.length:Int)≤8796093022208:=by omega
 have em:IntKind.u64.wrap (P.D.length:Int)=(P.D.length:Int):=by rw [IntKind.wrap_u64]; omega
 have HD0:Hid (∀ c,cnt P.kd P.k P.old P.size P.S=some c→c=P.D.length → ∀ j,j<P.D.length→((P.D.getD j ByteArray.empty).size:Int)≠P.k→decide (Well P)=false):=fun c h1 h2 j h3 h4=>decide_eq_false (well_no h3 h4)
 clear h6 hb hp hm
 simp only [pvP,pv6] at HC ⊢
 generalize hms:P.S.length=ms at *
 rcases hc:cnt P.kd P.k P.old P.size P.S with _ | c
 ·have hno:decide (Well P)=false:=decide_eq_false (fun h=>by have:=h.1; rw [hc] at this; cases this)
  rw [hno]
  rw [hc] at HC
  simp only [cV] at HC
  clear hno hc HD0
  generalize P.D.length=md at *
  go_enter Tryz.func131,Tryz.ntmps131
  go_wp2_with (go_at_call 162; (try rw [hW]); with_reducible refine HC.mono ?_; rintro x w1 ⟨rfl,hb1⟩; (obtain ⟨q1,q2,q3⟩:=HX.out _ hb1); (obtain ⟨k0,k1,k2,k3,k4,k5⟩:=q1.cells))
  go_ret
  exact ⟨rfl,q3⟩
 rw [hc] at HC
 simp only [cV] at HC
 by_cases hcd:c=P.D.length
 rotate_left
 ·have hno:decide (Well P)=false:=decide_eq_false (fun h=>by have:=h.1; rw [hc] at this; cases this; exact hcd rfl)
  rw [hno]
  have hne:((c:Int) != (P.D.length:Int))=true:=bne_iff_ne.2 (by omega)
  clear hno hc HD0 hcd
  generalize P.D.length=md at *
  go_enter Tryz.func131,Tryz.ntmps131
  go_wp2_with (go_at_call 162; (try rw [hW]); with_reducible refine HC.mono ?_; rintro x w1 ⟨rfl,hb1⟩; (obtain ⟨q1,q2,q3⟩:=HX.out _ hb1); (obtain ⟨k0,k1,k2,k3,k4,k5⟩:=q1.cells))
  go_ret
  exact ⟨rfl,q3⟩
 have hne:((P.D.length:Int) != (P.D.length:Int))=false:=bne_self_eq_false _
 have HC1:=HD0.out c hc hcd
 have HC2:(∀ j,j<P.D.length→((P.D.getD j ByteArray.empty).size:Int)=P.k)→decide (Well P)=true:=fun h=>decide_eq_true (well_all (by rw [hc,hcd]) h)
 rw [hcd] at HC
 clear HD0 hc hcd
 have HG:=hideC (And.intro HC1 HC2)
 clear HC1 HC2
 generalize decide (Well P)=ans at *
 generalize hD:P.D=D at *
 clear hD
 generalize P.k=k at *
 generalize P.kd=kd at *
 generalize P.old=old at *
 generalize P.size=size at *
 clear hms
 go_enter Tryz.func131,Tryz.ntmps131
 go_upto_region 4 with (go_at_call 162; (try rw [hW]); with_reducible refine HC.mono ?_; rintro x w1 ⟨rfl,hb1⟩; (obtain ⟨q1,q2,q3⟩:=HX.out _ hb1); (obtain ⟨k0,k1,k2,k3,k4,k5⟩:=q1.cells))
 have HI0:=hideC hb1
 clear hb1 q1 q2 q3 k0 k1 k2 k3 k4 k5 hW HC e0 e1 e2 e3 e4 e5
 go_wp2
 go_loopg [5] D.length (fun gk i wr => ∃ j:Nat,j≤D.length∧gk=D.length - j∧i = .int .i64 (j:Int)∧Hid (∀ t,t<j→((D.getD t ByteArray.empty).size:Int)=k)∧Hid (Below W.heap.size W wr))
 case atStart =>
  go_light
  exact ⟨0,Nat.zero_le _,rfl,rfl,(show ∀ t,t<0→_ from fun t ht=>absurd ht (by omega)),HI0⟩
 case round =>
  obtain ⟨j,hj,rfl,rfl,HA,HI⟩:=hrel
  obtain ⟨x6,v1,hbw⟩:=HX.out wr HI.out
  obtain ⟨_,e1,_,_,_,e5⟩:=x6.cells
  have hj0:(0:Int)≤(j:Int):=Int.natCast_nonneg _
  have HB2:=hideC hbw
  clear hbw x6 hne
  by_cases hlt:j<D.length
  ·have hlt':(j:Int)<(D.length:Int):=by omega
   obtain rfl:=v1.ptr (by omega)
   have c1:=v1.at (k:=j) hlt
   obtain ⟨x,hx⟩ : ∃ x,D.getD j ByteArray.empty=x:=⟨_,rfl⟩
   rw [hx] at c1
   by_cases hk:(x.size:Int)=k
   ·have HA2:Hid (∀ t,t<j+1→((D.getD t ByteArray.empty).size:Int)=k):=show ∀ t,t<j+1→_ from fun t ht=>by
     by_cases e:t=j
     ·rw [e,hx]; exact hk
     ·exact HA.out t (by omega)
    subst hk
    have hk1:=bne_self_eq_false (x.size:Int)
    clear hx v1 HA
    go_wp2
    go_quiet (fail)
    go_wp2
    go_roundg (D.length - (j+1))
    case rel =>
     go_light
     exact ⟨j+1,hlt,rfl,by go_num,HA2,below_drewN HI.out _⟩
    case measure=>go_light; omega
   ·have HN:Hid (ans=false):=HG.out.1 j hlt (by rw [hx]; exact hk)
    have hk1:((x.size:Int) != k)=true:=bne_iff_ne.2 hk
    clear hx v1 HA hk
    go_wp2
    go_quiet (fail)
    go_wp2
    go_ret
    exact ⟨by rw [HN.out]; try rfl,below_drewN HB2.out _⟩
  ·obtain hje:j=D.length:=by omega
   have hlt' : ¬ (j:Int)<(D.length:Int):=by omega
   have HN:Hid (ans=true):=HG.out.2 (fun t ht=>HA.out t (by omega))
   clear hje v1 HA
   go_wp2
   go_ret
   exact ⟨by rw [HN.out]; try rfl,HB2.out⟩
end
theorem ba_list (l:List UInt8):(⟨l.toArray⟩:ByteArray).data.toList=l:=by simp
theorem ba_size (l:List UInt8):(⟨l.toArray⟩:ByteArray).size=l.length:=by simp [ByteArray.size]
theorem ba_back (s:ByteArray):(⟨s.data.toList.toArray⟩:ByteArray)=s:=ba_ext (ba_list _)
end Go.Proofs.YtipcenbndhnnhaaGreatDoor
