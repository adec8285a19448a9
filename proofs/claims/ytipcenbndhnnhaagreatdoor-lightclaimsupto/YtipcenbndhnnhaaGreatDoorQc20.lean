/- Own work. -/
import Derived.Lib.BufferMore
import Derived.Test.YtipcenbndhnnhaaGreatDoorQc19
namespace Go.Proofs.YtipcenbndhnnhaaGreatDoor
open Go.RowKit
open Cv (RdC zl cU tno)
open Pl (pw)
attribute [local go_sem ↓] Go.wp_at_zero Go.wp_at_succ
set_option maxRecDepth 100000 in
theorem clone_any (w:World) (b off cap:Nat) (S:List Nat) (hr:RdU w (some ⟨b,off,none⟩) b off S.length S) (hm:S.length≤1048576) :
  Calls Tryz.prog 30 #[.slice (some ⟨b,off,none⟩) S.length cap] w fun e w' => ∃ v,e = .returned v∧Cv.Own w' w.heap.size v S∧Below w.heap.size w w':=by
 have hb:=bal (Below.refl w.heap.size w) (.cells #[] 23)
 have ho:Cv.Own (w.alloc (.cells #[] 23)) w.heap.size (.slice (some ⟨w.heap.size,0,none⟩) 0 0) []:=⟨rfl,.inr ⟨w.heap.size,0,_,rfl,Nat.le_refl _,heap_alloc_new w _,Nat.zero_le _,by decide,rfl,rfl⟩⟩
 have HO:=hide ho
 have HR:=hide (rdu_rdc (cap:=cap) (hr.next hb) (fun e=>by cases e))
 have HB:=hide hb
 have HE:=Lib.run_eql_slice_some_nil (P:=Tryz.prog) w ⟨b,off,none⟩ S.length cap Tryz.underlying24
 clear hr ho hb
 go_enter Tryz.func30,Tryz.ntmps30
 go_wp2_with (at_builtin; refine Cv.wpList_append_U _ rfl _ _ rfl w.heap.size _ [] rfl HO.out _ S rfl HR.out ?c1 ?c2 ?_)
 case c1=>simp only [List.length_nil]; omega
 case c2=>have:=HB.out.size; exact this
 intro v' w' o' g' _
 have HY:Hid (Cv.Own w' w.heap.size v' S∧Below w.heap.size w w'):=⟨o',HB.out.trans ((Below.refl _ _).grown g' HB.out.size (fun k hk=>by cases hk; exact Nat.le_refl _))⟩
 clear o' g'
 go_wp2
 go_ret
 exact ⟨_,rfl,HY.out.1,HY.out.2⟩
abbrev zP:Obj := .cells #[.int .i64 0,.int .i64 0,.int .u64 0,.int .u64 0,.slice none 0 0,.slice none 0 0] 38
set_option maxRecDepth 100000 in
theorem bprove_err (w:World) (m:Nat) (k:Int) (L:List ByteArray) (hF:Frs w m k L) (n:Nat) (hn:n≤L.length) (ao:Option Addr) (b off ns c:Nat) (S:List Nat) (hr:RdU w ao b off ns S) (hm:ns≤maxLen) (e0:Nat) (he:Cv.errS n S=e0) (h0:e0≠0) :
  Calls Tryz.prog 11 #[.pointer (some ⟨m+1,0,none⟩),.int .u64 (n:Int),.slice ao ns c] w fun e w'=>e = .returned (.tuple #[noP,.int .i64 (e0:Int)])∧Below w.heap.size w w':=by
 have hb:=bal (Below.refl w.heap.size w) zP
 have HS:=(fsize_any _ m k L (hF.next hb (Nat.le_refl _)))
 have HC:=Cv.rest_err n e0 (w.alloc zP) ao b off ns c S (rdu_rd (hr.next hb)) hm he h0
 have hn' : ¬ (L.length:Int)<(n:Int):=by omega
 have hz : ¬ (e0:Int)=0:=by omega
 have H6:=hide (six_new w (.int .i64 0) (.int .i64 0) (.int .u64 0) (.int .u64 0) (.slice none 0 0) (.slice none 0 0))
 unfold zP at hb HS HC
 clear hF hn hr hm he h0
 go_enter Tryz.func11,Tryz.ntmps11
 go_wp2_with (first
  | (go_at_call 26; with_reducible refine HS.mono ?_; rintro e w1 ⟨rfl,rfl⟩)
  | (go_at_call 27; with_reducible refine HC.mono ?_; rintro e w2 ⟨v2,rfl,_,hb2⟩; have h6:=H6.out.next hb2; obtain ⟨k0,k1,k2,k3,k4,k5⟩:=h6.cells; have f0:=h6.fz))
 have hch:=put6_ch w2 w.heap.size (.int .i64 0) (.int .i64 0) (.int .u64 0) (.int .u64 0) (.slice none 0 0) (.slice none 0 0)
 have hF6:=h6.put (.int .i64 0) (.int .i64 0) (.int .u64 0) (.int .u64 0) (.slice none 0 0) (.slice none 0 0)
 unfold put6 at hch hF6
 obtain ⟨s0,s1,s2,s3,s4,s5⟩:=hF6.cells
 refine bodyPost_ret (v := .tuple #[noP,.int .i64 (e0:Int)]) (by simp [results,Tryz.results11,go_sem,s0,s1,s2,s3,s4,s5]) rfl ⟨rfl,?_⟩
 exact (bnext hb hb2).trans (hch.below (by rintro b rfl; exact Nat.le_refl _))
def dgB (c:Nat) (L:List ByteArray) (n:Nat) (S:List Nat):List ByteArray:=(Cv.rst 0 n S).map fun b=>nd c L b.1 b.2
theorem rst_in {n:Nat} {S:List Nat} (he:Cv.errS n S=0) : ∀ b∈Cv.rst 0 n S,(b.2+1) * 2^b.1≤n:=by
 obtain ⟨h40,_,_,hc⟩:=Cv.errS_ok he
 exact fun b hb=>(Cv.til_mem (Cv.rst_but n S h40 hc) b hb).2
theorem rst_num {n:Nat} {S:List Nat} (he:Cv.errS n S=0):S.length≤n∧0<S.length:=by
 obtain ⟨h40,h0,_,hc⟩:=Cv.errS_ok he
 refine ⟨?_,h0.1⟩
 have key : ∀ (S:List Nat) (x n:Nat),Cv.Chain x S n→S.length+x≤n:=by
  intro S
  induction S with
  | nil=>intro x n h; have h':x≤n:=h; rw [List.length_nil]; omega
  | cons i S ih =>
   intro x n h
   have:=ih _ _ h.2
   have:=h.1
   rw [List.length_cons]; omega
 have:=key S 0 n hc
 omega
set_option maxRecDepth 100000 in
set_option maxHeartbeats 1000000 in
theorem bprove_ok (w:World) (m:Nat) (k:Int) (L:List ByteArray) (hF:Frs w m k L) (hL:L.length≤5000) (n:Nat) (hn:n≤L.length) (ao:Option Addr) (b off c:Nat) (S:List Nat) (hr:RdU w ao b off S.length S) (he:Cv.errS n S=0) (D:List ByteArray) (hD:dgB (clk k) L n S=D) :
  Calls Tryz.prog 11 #[.pointer (some ⟨m+1,0,none⟩),.int .u64 (n:Int),.slice ao S.length c] w fun e w' => ∃ vs vd,e = .returned (.tuple #[.agg #[.int .i64 2,.int .i64 k,.int .u64 0,.int .u64 (n:Int),vs,vd],.int .i64 0])∧Cv.Own w' w.heap.size vs S∧OwnS w' w.heap.size vd D∧Below w.heap.size w w':=by
 obtain ⟨hS1,hS0⟩:=rst_num he
 have hin:=rst_in he
 obtain ⟨h40,_,_,hc⟩:=Cv.errS_ok he
 obtain rfl:=hr.ptr hS0
 obtain ⟨o0,ho0⟩ : ∃ o0,zP=o0:=⟨_,rfl⟩
 have hb:=bal (Below.refl w.heap.size w) o0
 have HS:=fsize_any _ m k L (hF.next hb (Nat.le_refl _))
 obtain ⟨C,hC⟩ : ∃ C,zl (Cv.rst 0 n S)=C:=⟨_,rfl⟩
 have hlC:C.length≤1000000:=by rw [← hC,Cv.zl_len]; have:=Cv.rst_len n h40 S 0 hc; omega
 have HRs:Calls Tryz.prog 27 #[.int .u64 (n:Int),.slice (some ⟨b,off,none⟩) S.length c] (w.alloc o0) fun e w' => ∃ ao g cap,e = .returned (.tuple #[.slice ao C.length cap,.int .i64 0])∧RdB w' ao g 0 C.length C∧Below (w.alloc o0).heap.size (w.alloc o0) w':=by
  refine (Cv.rest_any n (w.alloc o0) (some ⟨b,off,none⟩) b off S.length c S (rdu_rd (hr.next hb)) (by omega)).mono fun e w' ⟨v,e1,e2,e3⟩ => ?_
  rw [he] at e1
  rw [Cv.rstS,if_pos he,hC] at e2
  obtain ⟨ao,g,n',cap,rfl,hr',_⟩:=own_rdB e2 (fun x hx=>by
   rw [← hC] at hx
   obtain ⟨b0,hb0,rfl⟩:=List.mem_map.1 hx
   exact (fit40 (hin b0 hb0) h40).1)
  obtain rfl:=hr'.len
  exact ⟨ao,g,cap,e1,hr',e3⟩
 have hds:dgs (clk k) L C=some D:=by rw [← hC,dgs_all (fun b hb=>Nat.le_trans (hin b hb) hn),← hD]; rfl
 have HD:Hid (∀ W ao g cap,Below w.heap.size w W→RdB W ao g 0 C.length C→Calls Tryz.prog 28 #[.pointer (some ⟨m+1,0,none⟩),.slice ao C.length cap] W fun e w'=>Below W.heap.size W w' ∧ ∃ ad md cd,e = .returned (.tuple #[.slice ad md cd,.bool true])∧OwnS w' W.heap.size (.slice ad md cd) D):=fun W ao g cap hb hr=>by
  refine (fdigests_any W m k L (hF.next hb (Nat.le_refl _)) ao g 0 cap C hr (by omega)).mono ?_
  rintro e w' ⟨hb',⟨h1,_⟩ | ⟨D',h1,v,rfl,ho⟩⟩
  ·rw [hds] at h1; cases h1
  ·rw [hds] at h1
   injection h1 with h1
   subst h1
   obtain ⟨ad,md,cd,rfl⟩:=Cv.own_slice ho
   exact ⟨hb',ad,md,cd,rfl,ho⟩
 have HSt:Hid (∀ W,Below w.heap.size w W→Calls Tryz.prog 29 #[.pointer (some ⟨m+1,0,none⟩)] W fun e w'=>e = .returned (.int .i64 k)∧W=w'):=fun W hb=>(fstrength_any W m k L (hF.next hb (Nat.le_refl _))).mono fun _ _ h=>⟨h.1,h.2.symm⟩
 have HCl:Hid (∀ W,Below w.heap.size w W→Calls Tryz.prog 30 #[.slice (some ⟨b,off,none⟩) S.length c] W fun e w' => ∃ a1 n1 c1,e = .returned (.slice a1 n1 c1)∧Cv.Own w' W.heap.size (.slice a1 n1 c1) S∧Below W.heap.size W w'):=fun W hb=>(clone_any W b off c S (hr.next hb) (by omega)).mono fun e w' ⟨v,e1,e2,e3⟩=>by
  obtain ⟨a1,n1,c1,rfl⟩:=Cv.own_slice e2
  exact ⟨a1,n1,c1,e1,e2,e3⟩
 have hn' : ¬ (L.length:Int)<(n:Int):=by omega
 have HP:Hid (∀ W,Below (w.alloc o0).heap.size (w.alloc o0) W→Six W w.heap.size (.int .i64 0) (.int .i64 0) (.int .u64 0) (.int .u64 0) (.slice none 0 0) (.slice none 0 0)):=fun W hb=>Six.next (show Six (w.alloc o0) _ _ _ _ _ _ _ by rw [← ho0]; exact six_new w _ _ _ _ _ _) hb
 rw [← ho0] at hb HS HP HRs
 unfold zP at hb HS HP HRs
 clear hF hn hr hL ho0 hin hds hD hlC hC hS1 hS0 hc h40 he
 go_enter Tryz.func11,Tryz.ntmps11
 go_wp2_with (first
  | (go_at_call 26; with_reducible refine HS.mono ?_; rintro e w0 ⟨rfl,rfl⟩)
  | (go_at_call 27; with_reducible refine HRs.mono ?_; rintro e w1 ⟨ao,g,cap,rfl,hr1,hb1⟩)
  | (go_at_call 28; with_reducible refine (HD.out _ _ _ _ (bnext hb hb1) hr1).mono ?_; rintro e w2 ⟨hb2,ad,md,cd,rfl,ho⟩)
  | (go_at_call 29; with_reducible refine (HSt.out _ (bnext (bnext hb hb1) hb2)).mono ?_; rintro e w3 ⟨rfl,rfl⟩)
  | (go_at_call 30; with_reducible refine (HCl.out _ (bnext (bnext hb hb1) hb2)).mono ?_; rintro e w4 ⟨a4,n4,c4,rfl,ho4,hb4⟩; have h6:=HP.out _ (bnext (bnext hb1 hb2) hb4); obtain ⟨k0,k1,k2,k3,k4,k5⟩:=h6.cells; have f0:=h6.fz))
 have hF6:=h6.put (.int .i64 2) (.int .i64 k) (.int .u64 0) (.int .u64 (n:Int)) (.slice a4 n4 c4) (.slice ad md cd)
 have hch:=put6_ch w4 w.heap.size (.int .i64 2) (.int .i64 k) (.int .u64 0) (.int .u64 (n:Int)) (.slice a4 n4 c4) (.slice ad md cd)
 have hle:=(bnext hb1 hb2).size
 unfold put6 at hF6 hch
 obtain ⟨s0,s1,s2,s3,s4,s5⟩:=hF6.cells
 rw [World.size_alloc] at hle
 refine bodyPost_ret (v := .tuple #[.agg #[.int .i64 2,.int .i64 k,.int .u64 0,.int .u64 (n:Int),.slice a4 n4 c4,.slice ad md cd],.int .i64 0]) (by simp [results,Tryz.results11,go_sem,s0,s1,s2,s3,s4,s5]) rfl ?_
 have hz1:=hb1.size
 rw [World.size_alloc] at hz1
 refine ⟨_,_,rfl,?_,?_,(bnext (bnext (bnext hb hb1) hb2) hb4).trans (hch.below (by rintro b rfl; exact Nat.le_refl _))⟩
 ·exact (keep_row ho4 fun g _ hg=>hch.block g (by omega)).mono (by omega)
 ·exact (keep_row (own_next ho hb4 (Nat.le_refl _)) fun g _ hg=>hch.block g (by omega)).mono (by omega)
theorem Rt.drew {w:World} {g n:Nat} {d:ByteArray} (h:Rt w g n d):Rt w.drew g n d:=⟨h.c0,h.c1,h.f0,h.f1⟩
abbrev noR:Value := .agg #[.int .u64 0,.string ⟨#[]⟩]
theorem root_start {w W0:World} {kd k:Int} {old size:Nat} {vs vd:Value} (h:(w.alloc (.cells #[.int .i64 kd,.int .i64 k,.int .u64 (old:Int),.int .u64 (size:Int),vs,vd] 38)).alloc (.cells #[.int .u64 0,.string ⟨#[]⟩] 32)=W0) :
  Below w.heap.size w W0∧Six W0 w.heap.size (.int .i64 kd) (.int .i64 k) (.int .u64 (old:Int)) (.int .u64 (size:Int)) vs vd∧Rt W0 (w.heap.size+1) 0 ⟨#[]⟩∧W0.heap.size=w.heap.size+2:=by
 subst h
 refine ⟨bal (bal (Below.refl _ _) _) _,?_,?_,by simp⟩
 ·exact (six_new w _ _ _ _ _ _).next (bal (Below.refl _ _) _)
 ·have:=rt_new (w.alloc (.cells #[.int .i64 kd,.int .i64 k,.int .u64 (old:Int),.int .u64 (size:Int),vs,vd] 38)) 0 ⟨#[]⟩ 32
  rw [World.size_alloc] at this
  exact this
theorem rt_put {w:World} {g n:Nat} {d:ByteArray} (h:Rt w g n d) (a:Int) (b:ByteArray) :
  ((w.setCell ⟨g,0,none⟩ (.int .u64 a)).setCell ⟨g,1,none⟩ (.string b)).cell? ⟨g,0,none⟩=some (.int .u64 a)∧((w.setCell ⟨g,0,none⟩ (.int .u64 a)).setCell ⟨g,1,none⟩ (.string b)).cell? ⟨g,1,none⟩=some (.string b)∧ChT (fun x=>x=g) w ((w.setCell ⟨g,0,none⟩ (.int .u64 a)).setCell ⟨g,1,none⟩ (.string b)):=by
 refine ⟨?_,?_,((ChT.refl (fun x=>x=g) w).set g 0 _ rfl).set g 1 _ rfl⟩
 ·exact (World.cell?_setCell_other _ _ _ _ (by simp)).trans (World.cell?_setCell_same _ _ _ h.c0)
 ·exact World.cell?_setCell_same _ _ _ ((World.cell?_setCell_other _ _ _ _ (by simp)).trans h.c1)
def okB (kd k:Int) (old size:Nat) (S:List Nat) (D:List ByteArray):Prop:=(kd=2∧(1≤k∧k≤32)∧old=0)∧(Cv.errS size S=0∧fil k (Cv.rstS size S).length D)
instance (kd k:Int) (old size:Nat) (S:List Nat) (D:List ByteArray):Decidable (okB kd k old size S D):=by unfold okB; infer_instance
set_option maxRecDepth 100000 in
set_option maxHeartbeats 1000000 in
theorem broot_no (w:World) (kd k:Int) (old size:Nat) (sa:Option Addr) (sb so ns sc:Nat) (S:List Nat) (hs:RdU w sa sb so ns S) (hns:ns≤1048576) (da:Option Addr) (db dO dn dc:Nat) (D:List ByteArray) (hr:RdS w da db dO dn D) (hm:dn≤8796093022208) (xa:Option Addr) (xn xc:Nat) (hno : ¬ (okB kd k old size S D∧xn=ns)) :
  Calls Tryz.prog 73 #[vP kd k old size (.slice sa ns sc) (.slice da dn dc),.slice xa xn xc] w fun e w'=>e = .returned (.tuple #[noR,.int .i64 150])∧Below w.heap.size w w':=by
 have hl:=hs.hl
 have hdl:=hr.hl
 subst hdl
 obtain ⟨r1,hr1⟩ : ∃ r,decide (kd=2∧(1≤k∧k≤32)∧old=0)=r:=⟨_,rfl⟩
 obtain ⟨r2,hr2⟩ : ∃ r,decide (Cv.errS size S=0∧fil k (Cv.rstS size S).length D)=r:=⟨_,rfl⟩
 have HI:Hid (∀ W,Calls Tryz.prog 119 #[vP kd k old size (.slice sa ns sc) (.slice da D.length dc)] W fun e w'=>e = .returned (.bool r1)∧Below W.heap.size W w'):=fun W=>isb_core W kd k old size sa ns sc da D.length dc r1 hr1
 have HF:Hid (∀ W,Below w.heap.size w W→Calls Tryz.prog 120 #[vP kd k old size (.slice sa ns sc) (.slice da D.length dc)] W fun e w'=>e = .returned (.bool r2)∧Below W.heap.size W w'):=fun W hb=>bfilled_core W kd k old size sa sb so ns sc S (hs.next hb) hns da db dO dc D (hr.next hb (Nat.le_refl _)) hm _ rfl _ rfl r2 hr2
 have HN:Hid (r1=true→r2=true → ¬ xn=ns):=fun h1 h2 h3=>hno ⟨⟨of_decide_eq_true (hr1.trans h1),of_decide_eq_true (hr2.trans h2)⟩,h3⟩
 obtain ⟨W0,hW0⟩ : ∃ W0,(w.alloc (.cells #[.int .i64 kd,.int .i64 k,.int .u64 (old:Int),.int .u64 (size:Int),.slice sa ns sc,.slice da D.length dc] 38)).alloc (.cells #[.int .u64 0,.string ⟨#[]⟩] 32)=W0:=⟨_,rfl⟩
 obtain ⟨hb,h6,hRt,hz⟩:=root_start hW0
 obtain ⟨c0,c1,c2,c3,c4,c5⟩:=h6.cells
 have HR:=hide (And.intro hRt hz)
 have H6:=hide h6
 clear hs hr hm hno hr1 hr2 h6 hRt hz
 cases r1 with
 | false =>
  clear HF HN
  go_enter Tryz.func73,Tryz.ntmps73
  go_wp2_with (go_at_call 119; with_reducible refine (HI.out _).mono ?_; rintro e w1 ⟨rfl,hb1⟩; have hR:=HR.out.1.below hb1 (by rw [HR.out.2]; omega); have k0:=hR.c0; have k1:=hR.c1; have f0:=hR.f0; have f1:=hR.f1)
  obtain ⟨s0,s1,hch⟩:=rt_put hR 0 ⟨#[]⟩
  refine bodyPost_ret (v := .tuple #[noR,.int .i64 150]) (by simp [results,Tryz.results73,go_sem,s0,s1]) rfl ⟨rfl,?_⟩
  exact (bnext hb hb1).trans (hch.below (by rintro b rfl; omega))
 | true =>
  cases r2 with
  | false =>
   clear HN
   go_enter Tryz.func73,Tryz.ntmps73
   go_wp2_with (first
    | (go_at_call 119; with_reducible refine (HI.out _).mono ?_; rintro e w1 ⟨rfl,hb1⟩; obtain ⟨d0,d1,d2,d3,d4,d5⟩:=(H6.out.next hb1).cells)
    | (go_at_call 120; with_reducible refine (HF.out _ (bnext hb hb1)).mono ?_; rintro e w2 ⟨rfl,hb2⟩; have hR:=HR.out.1.below (bnext hb1 hb2) (by rw [HR.out.2]; omega); have k0:=hR.c0; have k1:=hR.c1; have f0:=hR.f0; have f1:=hR.f1))
   obtain ⟨s0,s1,hch⟩:=rt_put hR 0 ⟨#[]⟩
   refine bodyPost_ret (v := .tuple #[noR,.int .i64 150]) (by simp [results,Tryz.results73,go_sem,s0,s1]) rfl ⟨rfl,?_⟩
   exact (bnext (bnext hb hb1) hb2).trans (hch.below (by rintro b rfl; omega))
  | true =>
   have hne:=HN.out rfl rfl
   have hz : ¬ (xn:Int)=(ns:Int):=by omega
   clear HN hne
   go_enter Tryz.func73,Tryz.ntmps73
   go_wp2_with (first
    | (go_at_call 119; with_reducible refine (HI.out _).mono ?_; rintro e w1 ⟨rfl,hb1⟩; obtain ⟨d0,d1,d2,d3,d4,d5⟩:=(H6.out.next hb1).cells)
    | (go_at_call 120; with_reducible refine (HF.out _ (bnext hb hb1)).mono ?_; rintro e w2 ⟨rfl,hb2⟩; have hR:=HR.out.1.below (bnext hb1 hb2) (by rw [HR.out.2]; omega); have k0:=hR.c0; have k1:=hR.c1; have f0:=hR.f0; have f1:=hR.f1; obtain ⟨g0,g1,g2,g3,g4,g5⟩:=(H6.out.next (bnext hb1 hb2)).cells))
   obtain ⟨s0,s1,hch⟩:=rt_put hR 0 ⟨#[]⟩
   refine bodyPost_ret (v := .tuple #[noR,.int .i64 150]) (by simp [results,Tryz.results73,go_sem,s0,s1]) rfl ⟨rfl,?_⟩
   exact (bnext (bnext hb hb1) hb2).trans (hch.below (by rintro b rfl; omega))
set_option maxRecDepth 100000 in
set_option maxHeartbeats 1000000 in
theorem broot_long (w:World) (k:Int) (size:Nat) (sa:Option Addr) (sb so sc:Nat) (S:List Nat) (X:List ByteArray) (hs:RdU w sa sb so X.length S) (hns:X.length≤1048576) (da:Option Addr) (db dO dc:Nat) (D:List ByteArray) (hr:RdS w da db dO D.length D) (hm:D.length≤8796093022208) (xa:Option Addr) (xb xo xc:Nat) (hx:RdS w xa xb xo X.length X) (hok:okB 2 k 0 size S D) (hlong : ¬ ∀ s∈X,s.size≤1048576) :
  Calls Tryz.prog 73 #[vP 2 k 0 size (.slice sa X.length sc) (.slice da D.length dc),.slice xa X.length xc] w fun e w'=>e = .returned (.tuple #[noR,.int .i64 100])∧Below w.heap.size w w':=by
 have HI:Hid (∀ W,Calls Tryz.prog 119 #[vP 2 k 0 size (.slice sa X.length sc) (.slice da D.length dc)] W fun e w'=>e = .returned (.bool true)∧Below W.heap.size W w'):=fun W=>isb_core W 2 k 0 size sa X.length sc da D.length dc true (decide_eq_true hok.1)
 have HF:Hid (∀ W,Below w.heap.size w W→Calls Tryz.prog 120 #[vP 2 k 0 size (.slice sa X.length sc) (.slice da D.length dc)] W fun e w'=>e = .returned (.bool true)∧Below W.heap.size W w'):=fun W hb=>bfilled_core W 2 k 0 size sa sb so X.length sc S (hs.next hb) hns da db dO dc D (hr.next hb (Nat.le_refl _)) hm _ rfl _ rfl true (decide_eq_true hok.2)
 have HX:Hid (∀ W,Below w.heap.size w W→RdS W xa xb xo X.length X):=fun W hb=>hx.next hb (Nat.le_refl _)
 obtain ⟨W0,hW0⟩ : ∃ W0,(w.alloc (.cells #[.int .i64 2,.int .i64 k,.int .u64 ((0:Nat):Int),.int .u64 (size:Int),.slice sa X.length sc,.slice da D.length dc] 38)).alloc (.cells #[.int .u64 0,.string ⟨#[]⟩] 32)=W0:=⟨_,rfl⟩
 obtain ⟨hb,h6,hRt,hz⟩:=root_start hW0
 rw [show ((0:Nat):Int)=0 from rfl] at hW0 h6
 obtain ⟨c0,c1,c2,c3,c4,c5⟩:=h6.cells
 have HR:=hide (And.intro hRt hz)
 have H6:=hide h6
 have HN:=hide hlong
 have hn5:(X.length:Int)≤1048576:=by omega
 clear hs hr hm hok h6 hRt hz hx hlong
 unfold vP at HI HF
 rw [show ((0:Nat):Int)=0 from rfl] at HI HF
 unfold vP
 rw [show ((0:Nat):Int)=0 from rfl]
 go_enter Tryz.func73,Tryz.ntmps73
 go_upto_region 3 with (first
  | (go_at_call 119; with_reducible refine (HI.out _).mono ?_; rintro e w1 ⟨rfl,hb1⟩; obtain ⟨d0,d1,d2,d3,d4,d5⟩:=(H6.out.next hb1).cells)
  | (go_at_call 120; with_reducible refine (HF.out _ (bnext hb hb1)).mono ?_; rintro e w2 ⟨rfl,hb2⟩; have hR:=HR.out.1.below (bnext hb1 hb2) (by rw [HR.out.2]; omega); have k0:=hR.c0; have k1:=hR.c1; have f0:=hR.f0; have f1:=hR.f1; obtain ⟨g0,g1,g2,g3,g4,g5⟩:=(H6.out.next (bnext hb1 hb2)).cells))
 have hbw:=bnext (bnext hb hb1) hb2
 clear hb hb1 hb2 c0 c1 c2 c3 c4 c5 d0 d1 d2 d3 d4 d5 HI HF
 go_wp2
 go_loopg [36] X.length (fun g i wr => ∃ j:Nat,j≤X.length∧g=X.length - j∧i = .int .i64 (j:Int)∧(∀ t,t<j→(X.getD t ByteArray.empty).size≤1048576)∧w2=wr)
 case atStart =>
  go_light
  exact ⟨0,Nat.zero_le _,rfl,rfl,fun t ht=>absurd ht (Nat.not_lt_zero _),rfl⟩
 case round =>
  obtain ⟨j,hj,rfl,rfl,hal,rfl⟩:=hrel
  by_cases hlt:j<X.length
  ·have hz:(j:Int)<(X.length:Int):=by omega
   have hz0:(0:Int)≤(j:Int):=Int.natCast_nonneg _
   have hrd:=HX.out w2 hbw
   obtain rfl:=hrd.ptr (by omega)
   have cj:=hrd.at hlt
   obtain ⟨d,hd⟩ : ∃ d,X.getD j ByteArray.empty=d:=⟨_,rfl⟩
   rw [hd] at cj
   by_cases hk:d.size≤1048576
   ·have HN2:Hid (∀ t,t<j+1→(X.getD t ByteArray.empty).size≤1048576):=fun t ht=>by
     rcases Nat.lt_or_eq_of_le (Nat.le_of_lt_succ ht) with hx | rfl
     ·exact hal t hx
     ·rw [hd]; exact hk
    have hkz : ¬ (1048576:Int)<(d.size:Int):=by omega
    clear hd hal hrd hk
    go_wp2
    go_roundg (X.length - (j+1))
    case rel =>
     go_light
     exact ⟨j+1,by omega,rfl,by go_num,HN2.out,rfl⟩
    case measure=>go_light; omega
   ·have hkz:(1048576:Int)<(d.size:Int):=by omega
    clear hd hal hrd hk
    go_wp2
    obtain ⟨s0,s1,hch⟩:=rt_put hR 0 ⟨#[]⟩
    refine bodyPost_ret (v := .tuple #[noR,.int .i64 100]) (by simp [results,Tryz.results73,go_sem,s0,s1]) rfl ⟨rfl,?_⟩
    exact hbw.trans (hch.below (by rintro b rfl; omega))
  ·exfalso
   refine HN.out fun s hs => ?_
   obtain ⟨t,ht,rfl⟩:=List.getElem_of_mem hs
   have:=hal t (by omega)
   rwa [List.getD_eq_getElem?_getD,List.getElem?_eq_getElem ht] at this
end Go.Proofs.YtipcenbndhnnhaaGreatDoor
