/- Own work. -/
import Derived.Test.YtipcenbndhnnhaaGreatDoorQd44
import Derived.Test.YtipcenbndhnnhaaGreatDoorQd46
import Derived.Test.YtipcenbndhnnhaaGreatDoorProg
import Derived.Below
import Derived.WalkKit
import Derived.WalkSpells
import Derived.KernelRfl
import Derived.Deep.RegionHeld3
import Derived.Deep.RegionWith
import Derived.BigQuiet
import Derived.Test.YtipcenbndhnnhaaGreatDoorQv02
import Derived.Test.YtipcenbndhnnhaaGreatDoorQv03
import Derived.Test.YtipcenbndhnnhaaGreatDoorQv04
namespace Go.Proofs.YtipcenbndhnnhaaGreatDoor
open Go.RowKit
attribute [local go_sem ↓] Go.wp_at_zero Go.wp_at_succ
set_option maxRecDepth 100000 in
set_option maxHeartbeats 8000000 in
theorem whole_walk (w:World) (k:Int) (m n:Nat) (la:Option Addr) (lb lo lc:Nat) (Li:List ByteArray) (sa:Option Addr) (sb so sc:Nat) (S:List Nat) (hz:Cz w k m n la lb lo lc Li sa sb so sc S) :
  Calls Tryz.prog 4 #[.agg #[.int .i64 k,.slice la Li.length lc,.int .u64 (m:Int),.int .u64 (n:Int),.slice sa S.length sc]] w fun e w'=>e = .returned (.bool true)∧Below w.heap.size w w':=by
 obtain ⟨T,hT⟩ : ∃ T,Li.take 200=T:=⟨_,rfl⟩
 have hTl:T.length=min Li.length 200:=by rw [← hT,List.length_take]; omega
 obtain ⟨W0,hW0,h5,hb0,_⟩:=fv_box w (.int .i64 k) (.slice la Li.length lc) (.int .u64 (m:Int)) (.int .u64 (n:Int)) (.slice sa S.length sc)
 have HX:Hid (∀ F,Below W0.heap.size W0 F→Fv F w.heap.size (.int .i64 k) (.slice la Li.length lc) (.int .u64 (m:Int)) (.int .u64 (n:Int)) (.slice sa S.length sc)∧Cz F k m n la lb lo lc Li sa sb so sc S∧RdS F la lb lo T.length T∧Below w.heap.size w F):=fun F hF=>by
  have hc:=hz.next (bnext hb0 hF)
  exact ⟨h5.next hF,hc,rds_first hc.rl hT,bnext hb0 hF⟩
 have HA:=alive_light W0 (hz.tb.next hb0) (hz.tr.next hb0)
 have HMd:Hid (∀ W,Below W0.heap.size W0 W→Calls Tryz.prog 8 #[.agg #[.int .i64 k,.slice la Li.length lc,.int .u64 (m:Int),.int .u64 (n:Int),.slice sa S.length sc]] W fun e w'=>(((1≤k∧k≤32) ∧ ∀ s∈T,s.size≤1048576)∧(∃ f,e = .returned (.tuple #[.pointer (some ⟨f+1,0,none⟩),.bool true])∧Frs w' f k T)∧Below W.heap.size W w')∨(¬ ((1≤k∧k≤32) ∧ ∀ s∈T,s.size≤1048576)∧e = .returned (.tuple #[.pointer none,.bool false])∧Below W.heap.size W w')):=fun W hW=>by
  obtain ⟨_,hc,_,_⟩:=HX.out W hW
  exact made_any W hc.tb k la lb lo Li.length lc Li hc.rl hc.lc m n (.slice sa S.length sc) T hT
 have HIt:Hid (∀ W,Calls Tryz.prog 10 #[.agg #[.int .i64 k,.slice la Li.length lc,.int .u64 (m:Int),.int .u64 (n:Int),.slice sa S.length sc]] W fun e w'=>e = .returned (.slice la T.length lc)∧Below W.heap.size W w'):=fun W=>eitems_any W k la Li.length lc m n hz.lc (.slice sa S.length sc) T.length hTl.symm
 have HZ:Hid (T.length≤200∧T.length≤lc∧S.length≤maxLen∧n<18446744073709551616∧S.length≤17592186043904∧Li.length≤8796093021952∧T.length≤Li.length):=⟨by omega,by have:=hz.lc; omega,by have:=hz.ms; unfold maxLen; omega,hz.n64,hz.ms,hz.ml,by omega⟩
 have m0:=h5.cells
 clear hz hT hTl hb0
 go_enter Tryz.func4,Tryz.ntmps4
 go_upto_region 1 with (fail)
 try rw [hW0]
 clear hW0
 go_upto_region 3 with (go_at_call 7; with_reducible refine HA.mono ?_; rintro e w1 ⟨rfl,hb1⟩)
 obtain ⟨c0,c1,c2,c3,c4⟩:=(HX.out w1 hb1).1.cells
 clear HA m0 h5
 go_upto_region 4 with (go_at_call 8; with_reducible refine (HMd.out w1 hb1).mono ?_; rintro e w2 (⟨hok,⟨f,rfl,hF2⟩,hb2⟩ | ⟨_,rfl,hb2⟩))
 ·have HF2:=hide hok
  have HY:Hid (∀ F,Below w2.heap.size w2 F→Fv F w.heap.size (.int .i64 k) (.slice la Li.length lc) (.int .u64 (m:Int)) (.int .u64 (n:Int)) (.slice sa S.length sc)∧Cz F k m n la lb lo lc Li sa sb so sc S∧RdS F la lb lo T.length T∧Frs F f k T∧Below w.heap.size w F):=fun F hF=>by
   obtain ⟨x1,x2,x3,x4⟩:=HX.out F (bnext (bnext hb1 hb2) hF)
   exact ⟨x1,x2,x3,hF2.next hF (Nat.le_refl _),x4⟩
  have HRt:Hid (∀ x,x≤T.length → ∀ W,Below w2.heap.size w2 W→Calls Tryz.prog 9 #[.int .i64 k,.slice la T.length lc,.int .u64 (x:Int)] W fun e w'=>e = .returned (.tuple #[.agg #[.int .u64 (x:Int),.string (rtD (clk k) T x)],.int .i64 0])∧Below W.heap.size W w'):=fun x hx W hW =>
   rroot_ok W (HY.out W hW).2.1.tr k hok.1.1 hok.1.2 la lb lo T.length lc T (HY.out W hW).2.2.1 (fun s hs=>Nat.le_trans (hok.2 s hs) (by decide)) (by have:=HZ.out.1; omega) HZ.out.2.1 x hx _ (hide rfl)
  have HRn:Hid (∀ x,¬ x≤T.length → ∀ W,Calls Tryz.prog 9 #[.int .i64 k,.slice la T.length lc,.int .u64 (x:Int)] W fun e w'=>e = .returned (.tuple #[.agg #[.int .u64 0,.string ⟨#[]⟩],.int .i64 30])∧Below W.heap.size W w'):=fun x hx W =>
   rroot_size W k hok.1.1 hok.1.2 la T.length lc x (by omega) (by have:=HZ.out.1; omega)
  obtain ⟨c0',c1',c2',c3',c4'⟩:=(HY.out w2 (Below.refl _ _)).1.cells
  clear hok hF2 HMd HX c0 c1 c2 c3 c4 hb1 hb2
  go_upto_region 7 with (go_at_call 10; with_reducible refine (HIt.out w2).mono ?_; rintro e w3 ⟨rfl,hb3⟩)
  obtain ⟨y5,yc,yt,yf,yb⟩:=HY.out w3 hb3
  obtain ⟨c0,c1,c2,c3,c4⟩:=y5.cells
  have HB3:=hide hb3
  clear y5 yc yt yf yb HIt c0' c1' c2' c3' c4' hb3
  by_cases hn:n≤T.length
  ·obtain ⟨rr,hrr⟩ : ∃ rr,rtD (clk k) T n=rr:=⟨_,rfl⟩
   have HR0:=HRt.out n hn w3 HB3.out
   rw [hrr] at HR0
   go_upto_region 8 with (go_at_call 9; with_reducible refine HR0.mono ?_; rintro e w4 ⟨rfl,hb4⟩)
   obtain ⟨w5,hw5,x6,hb5⟩:=rh_box w4 n rr
   try rw [hw5]
   clear hw5 HR0
   have HG:Hid (∀ F,Below w5.heap.size w5 F→Fv F w.heap.size (.int .i64 k) (.slice la Li.length lc) (.int .u64 (m:Int)) (.int .u64 (n:Int)) (.slice sa S.length sc)∧Cz F k m n la lb lo lc Li sa sb so sc S∧RdS F la lb lo T.length T∧Frs F f k T∧Rh F w4.heap.size n rr∧Below w2.heap.size w2 F∧Below w.heap.size w F):=fun F hF=>by
    have hb:=bnext (bnext (bnext HB3.out hb4) hb5) hF
    obtain ⟨x1,x2,x3,x4,x5⟩:=HY.out F hb
    exact ⟨x1,x2,x3,x4,x6.next hF,hb,x5⟩
   have HN:=hide (And.intro hn hrr)
   obtain ⟨q6,hq6⟩ : ∃ q6,w4.heap.size=q6:=⟨_,rfl⟩
   rw [hq6] at HG
   try rw [hq6]
   obtain ⟨d0,d1,d2,d3,d4⟩:=(HG.out w5 (Below.refl _ _)).1.cells
   clear c0 c1 c2 c3 c4 hb4 hb5 x6 HB3 HY hn hrr hq6
   obtain ⟨ot,hot⟩ : ∃ ot,1+k.tmod 32=ot:=⟨_,rfl⟩
   obtain ⟨o1,o2,o3⟩:1≤ot∧ot≤32∧(1<k→ot≠k):=by
    obtain ⟨⟨k1,k2⟩,_⟩:=HF2.out
    have h1:k.tmod 32=k % 32:=Int.tmod_eq_emod_of_nonneg (by omega)
    rw [← hot,h1]
    omega
   have hwo:wrap64 ot=ot:=by unfold wrap64; omega
   go_upto_region 11 with (fail)
   try rw [hwo]
   have HO:=hide (And.intro o1 (And.intro o2 o3))
   clear hot hwo o1 o2 o3
   have HU:=hide (And.intro (HG.out w5 (Below.refl _ _)).2.2.2.1 (HG.out w5 (Below.refl _ _)).2.1.rs)
   by_cases he:Cv.errS n S=0
   ·obtain ⟨i,D,E,s,t,⟨hi,hS0,hSl,hSm,hSz⟩,g1,g2,g3,g4,g5,g6,g7,g8,g9⟩:=whole_calls HF2.out.1.1 HF2.out.1.2 T HZ.out.1 HF2.out.2 HN.out.1 S he ot HO.out.1 HO.out.2.1 rr HN.out.2
    have HPr:=hide g1
    have HE1:=hide g2
    have HPp:=hide g3
    have HE2:=hide g4
    have HC1:=hide g5
    have HC2:=hide g6
    have HC3:=hide g7
    have HC4:=hide g8
    have HC5:=hide g9
    have HS:=hide hSm
    have HSz:=hide hSz
    have HS0:=hide (And.intro hS0 (And.intro hSl hi))
    have hs0 : ¬ ((S.length:Int)=0):=by omega
    have hs0b:((S.length:Int) == 0)=false:=by simpa using hs0
    clear g1 g2 g3 g4 g5 g6 g7 g8 g9 hSm hSz hS0 hSl hi he
    go_upto_region 12 with (go_at_call 11; with_reducible refine (HPr.out _ _ _ _ _ _ HU.out.1 HU.out.2).mono ?_; rintro e w6 ⟨gs,cs,ad,bd,cd,rfl,HP6,hb6⟩)
    obtain ⟨w7,hw7,x7,hb7,_⟩:=box6 w6 (.int .i64 2) (.int .i64 k) (.int .u64 0) (.int .u64 (n:Int)) (.slice (some ⟨gs,0,none⟩) S.length cs) (.slice ad D.length cd)
    try rw [hw7]
    clear hw7 HU HPr d0 d1 d2 d3 d4
    obtain ⟨q9,hq9⟩ : ∃ q9,w6.heap.size=q9:=⟨_,rfl⟩
    rw [hq9] at x7
    try rw [hq9]
    have HX7:=hide x7
    have HP7:Hid (RdU w7 (some ⟨gs,0,none⟩) gs 0 S.length S∧RdS w7 ad bd 0 D.length D∧D.length≤cd):=⟨HP6.out.1.next hb7,HP6.out.2.1.next hb7 (Nat.le_refl _),HP6.out.2.2⟩
    have HG7:Hid (∀ F,Below w7.heap.size w7 F→Below w5.heap.size w5 F):=fun F hF=>bnext (bnext hb6 hb7) hF
    obtain ⟨d0,d1,d2,d3,d4⟩:=(HG.out w7 (HG7.out w7 (Below.refl _ _))).1.cells
    clear HP6 hb6 hb7 x7 hq9
    go_wp2
    go_loopg [10,11] S.length (fun g v i wr => ∃ j:Nat,j≤S.length∧g=S.length - j∧i = .int .i64 (j:Int)∧Hid (OwnK wr w7.heap.size v (clm T S j))∧Hid (Below w7.heap.size w7 wr))
    case atStart =>
     go_light
     exact ⟨0,Nat.zero_le _,rfl,rfl,ownK_nil w7 _,Below.refl _ _⟩
    case round =>
     obtain ⟨j,hj,rfl,rfl,HOw,HBr⟩:=hrel
     obtain ⟨y5,yc,yt,yf,yr,_,yb⟩:=HG.out wr (HG7.out wr HBr.out)
     obtain ⟨c0,c1,c2,c3,c4⟩:=y5.cells
     obtain ⟨va,vm,vc,rfl⟩:=Cv.own_slice HOw.out
     have hj0:(0:Int)≤(j:Int):=Int.natCast_nonneg _
     have hS5:(S.length:Int)≤17592186043904:=by have:=HZ.out.2.2.2.2.1; omega
     by_cases hlt:j<S.length
     ·have hzj:(j:Int)<(S.length:Int):=by omega
      obtain ⟨x,hx⟩ : ∃ x,S.getD j 0=x:=⟨_,rfl⟩
      have hxT:x<T.length:=by rw [← hx]; exact HS.out j hlt
      obtain ⟨y,hy⟩ : ∃ y,T.getD x ByteArray.empty=y:=⟨_,rfl⟩
      have HNx:Hid (clm T S (j+1)=clm T S j++[(x,y)]):=by rw [← hy,← hx]; exact clm_next T S hlt
      obtain rfl:=yc.rs.ptr (by omega)
      obtain rfl:=yt.ptr (by omega)
      have HW:Hid (∀ F,Below wr.heap.size wr F→F.cell? ⟨w.heap.size,4,none⟩=some (.slice (some ⟨sb,so,none⟩) S.length sc)∧F.cell? ⟨sb,so+j,none⟩=some (.int .u64 (x:Int))∧F.cell? ⟨lb,lo+x,none⟩=some (.string y)):=fun F hF=>by
       obtain ⟨g1,g2,g3,_⟩:=HG.out F (HG7.out F (bnext HBr.out hF))
       have e1:=g2.rs.at hlt
       have e2:=g3.at hxT
       rw [hx] at e1
       rw [hy] at e2
       exact ⟨g1.cells.2.2.2.2,e1,e2⟩
      have HL:Hid (x<T.length∧(clm T S j).length+1≤1099511627776):=⟨hxT,by rw [clm_len]; have:=HS0.out.2.1; omega⟩
      have hwr:IntKind.u64.wrap (T.length:Int)=(T.length:Int):=by rw [IntKind.wrap_u64]; have:=HZ.out.1; show (T.length:Int) % 18446744073709551616=_; omega
      have hx0:(0:Int)≤(x:Int):=Int.natCast_nonneg _
      have hxz : ¬ ((T.length:Int)≤(x:Int)):=by omega
      have hxb:decide ((T.length:Int)≤(x:Int))=false:=decide_eq_false hxz
      have hT5:(T.length:Int)≤200:=by have:=HZ.out.1; omega
      have hT0:(0:Int)≤(T.length:Int):=Int.natCast_nonneg _
      obtain ⟨p4,p5,p6⟩:=HW.out wr (Below.refl _ _)
      clear hx hy y5 yc yt yf yr yb c0 c1 c2 c3
      go_upto_region 21 with (fail)
      clear p4 p5 p6
      refine wp_region_planJ (by kernel_rfl) (by kernel_rfl) (Bkf _ wr w7.heap.size w.heap.size va vm vc (clm T S j) j sb so S.length sc lb lo T.length lc x y)
       (fun Z _ hZ => { sz:=rfl,df:=rfl,i1:=rfl,i5:=rfl,i11:=rfl,fr:=(fun _ _=>rfl),b15:=(fun _=>rfl),b1:=(fun _=>hZ),a0:=(fun h=>by cases h),a1:=(fun h=>by cases h),a2:=(fun h=>by cases h),a3:=(fun h=>by cases h),a4:=(fun h=>by cases h),a5:=(fun h=>by cases h),a6:=(fun h=>by cases h),a7:=(fun h=>by cases h),a8:=(fun h=>by cases h),a9:=(fun h=>by cases h),a10:=(fun h=>by cases h),a11:=(fun h=>by cases h),a12:=(fun h=>by cases h),a13:=(fun h=>by cases h),a14:=(fun h=>by cases h),a15:=(fun h=>by cases h),a16:=(fun h=>by cases h),a17:=(fun h=>by cases h) })
       ⟨bkf_0 rfl ,bkf_1 ,bkf_2 rfl rfl rfl rfl rfl rfl (fun Z hZ=>(HW.out Z hZ).1),bkf_3 ,bkf_4 rfl rfl hlt,bkf_5 rfl rfl rfl rfl (fun Z hZ=>(HW.out Z hZ).2.1),bkf_6 ,bkf_7 ,bkf_8 rfl rfl rfl rfl rfl rfl rfl rfl (fun Z hZ=>(HW.out Z hZ).1),bkf_9 ,bkf_10 rfl rfl hlt,bkf_11 rfl rfl rfl rfl rfl rfl (fun Z hZ=>(HW.out Z hZ).2.1),bkf_12 rfl rfl HL.out.1,bkf_13 rfl rfl rfl rfl (fun Z hZ=>(HW.out Z hZ).2.2),bkf_14 rfl rfl ,bkf_15 rfl rfl ,bkf_16 rfl rfl rfl HOw.out HBr.out.size HL.out.2,bkf_17 rfl ,trivial⟩ ?_
      intro Le a7 w11 hall hI2
      obtain ⟨va',vm',vc',e8,o1,hb11⟩:=hI2.a16 (hall 16 (by decide))
      obtain ⟨y7,hy7⟩ : ∃ y7,a7.tmps.getD 98 undef=y7:=⟨_,rfl⟩
      have ha7:=act_putsI (sl:=[83,84,85,86,87,88,89,90,91,92,93,94,95,96,97,98,99,10]) (vs:=[.slice va vm vc,.pointer (some ⟨w.heap.size,4,none⟩),.slice (some ⟨sb,so,none⟩) S.length sc,.int .i64 (j:Int),.pointer (some ⟨sb,so+j,none⟩),.int .u64 (x:Int),.slice (some ⟨lb,lo,none⟩) T.length lc,.pointer (some ⟨w.heap.size,4,none⟩),.slice (some ⟨sb,so,none⟩) S.length sc,.int .i64 (j:Int),.pointer (some ⟨sb,so+j,none⟩),.int .u64 (x:Int),.pointer (some ⟨lb,lo+x,none⟩),.string y,.agg #[.int .u64 (x:Int),.string y],y7,.slice va' vm' vc',.slice va' vm' vc']) hI2.df hI2.sz hI2.fr (fun q hq=>by
       match q,hq with
       | 0,_=>exact hI2.a0 (hall 0 (by decide))
       | 1,_=>exact hI2.a1 (hall 1 (by decide))
       | 2,_=>exact hI2.a2 (hall 2 (by decide))
       | 3,_=>exact hI2.a3 (hall 3 (by decide))
       | 4,_=>exact hI2.a4 (hall 4 (by decide))
       | 5,_=>exact hI2.a5 (hall 5 (by decide))
       | 6,_=>exact hI2.a6 (hall 6 (by decide))
       | 7,_=>exact hI2.a7 (hall 7 (by decide))
       | 8,_=>exact hI2.a8 (hall 8 (by decide))
       | 9,_=>exact hI2.a9 (hall 9 (by decide))
       | 10,_=>exact hI2.a10 (hall 10 (by decide))
       | 11,_=>exact hI2.a11 (hall 11 (by decide))
       | 12,_=>exact hI2.a12 (hall 12 (by decide))
       | 13,_=>exact hI2.a13 (hall 13 (by decide))
       | 14,_=>exact hI2.a14 (hall 14 (by decide))
       | 15,_=>exact hy7
       | 16,_=>exact e8
       | 17,_=>exact (hI2.a17 (hall 17 (by decide))).trans e8
       | q+18,hq=>exact absurd hq (by show ¬ q+18<18; omega)) rfl (nodup_getD (by decide))
      rw [ha7]
      clear ha7
      have HO2:Hid (OwnK w11 w7.heap.size (.slice va' vm' vc') (clm T S (j+1))∧Below w7.heap.size w7 w11):=⟨by rw [HNx.out]; exact o1,HBr.out.trans hb11⟩
      clear hI2 hall o1 hb11 HOw HBr HNx HW e8 hy7
      simp only [puts]
      go_simp
      go_wp2
      go_roundg (S.length - (j+1))
      case rel =>
       go_light
       exact ⟨j+1,by omega,rfl,by go_num,HO2.out.1,HO2.out.2⟩
      case measure=>go_light; omega
     ·have hzj : ¬ (j:Int)<(S.length:Int):=by omega
      obtain rfl:j=S.length:=by omega
      obtain ⟨ca,cb,cp,hv,hrk,hcp,_⟩:=ownK_rd HOw.out (HSz.out _)
      rw [clm_len,Nat.min_self] at hv hrk hcp
      injection hv with e1 e2 e3
      subst e1 e2 e3
      obtain ⟨a0,a1,a2,a3,a4,a5⟩:=(HX7.out.next HBr.out).cells
      have HRk:=hide hrk
      have HCp:=hide hcp
      clear hrk hcp y5 yc yt yf yr yb HOw c0 c1 c2 c3 d0 d1 d2 d3 d4 HX7
      have HG8:Hid (∀ F,Below wr.heap.size wr F→Below w5.heap.size w5 F):=fun F hF=>HG7.out F (bnext HBr.out hF)
      have HP8:Hid (RdU wr (some ⟨gs,0,none⟩) gs 0 S.length S∧RdS wr ad bd 0 D.length D∧D.length≤cd):=⟨HP7.out.1.next HBr.out,HP7.out.2.1.next HBr.out (Nat.le_refl _),HP7.out.2.2⟩
      go_upto_region 23 with (go_at_call 13; with_reducible refine (HE1.out wr _ _ _ _ _ HP8.out.1 HP8.out.2.1 HP8.out.2.2).mono ?_; rintro e w12 ⟨rfl,hb12⟩)
      have HB12:=hide hb12
      clear hb12 HE1 HP8 HP7 HBr HG7 c4 a0 a1 a2 a3 a4 a5
      obtain rfl:=(HG.out w12 (HG8.out w12 HB12.out)).2.1.rs.ptr HS0.out.1
      obtain rfl:=HRk.out.ptr HS0.out.1
      have HQ:Hid (∀ F,Below w12.heap.size w12 F→(F.cell? ⟨w.heap.size,0,none⟩=some (.int .i64 k)∧F.cell? ⟨q6,0,none⟩=some (.int .u64 (n:Int))∧F.cell? ⟨q6,1,none⟩=some (.string rr))∧Tb F∧RdK F (some ⟨cb,0,none⟩) cb 0 S.length (clm T S S.length)∧Below w5.heap.size w5 F):=fun F hF=>by
       have hb:=HG8.out F (bnext HB12.out hF)
       obtain ⟨g1,g2,_,_,g5,_⟩:=HG.out F hb
       exact ⟨⟨g1.cells.1,g5.cells⟩,g2.tb,HRk.out.next (bnext HB12.out hF),hb⟩
      clear HRk HG8 HB12
      obtain ⟨⟨b0,b1,b2⟩,tb0,rk0,_⟩:=HQ.out w12 (Below.refl _ _)
      have hn1:IntKind.u64.wrap ((n:Int)+1)=(n:Int)+1:=by rw [IntKind.wrap_u64]; have:=HZ.out.1; have:=HN.out.1; show ((n:Int)+1) % 18446744073709551616=_; omega
      go_cut [142] from 105 to 141 (fun x wx=>x = .bool false∧Hid (Below w12.heap.size w12 wx))
      case first =>
       by_cases hk:1<k
       ·have hkb:decide (1<k)=true:=decide_eq_true hk
        have hok:=HO.out.2.2 hk
        go_wp2_with (first
         | (go_at_call 14; with_reducible refine (HC1.out w12 _ _ _ tb0 rk0).mono ?_; rintro e w13 ⟨rfl,hb13⟩; (obtain ⟨⟨f0,f1,f2⟩,_,_,_⟩:=HQ.out w13 hb13))
         | (go_at_call 14; with_reducible refine (HC2.out w13 _ _ hok).mono ?_; rintro e w14 ⟨rfl,hb14⟩; (obtain ⟨⟨h0,h1,h2⟩,tb1,rk1,_⟩:=HQ.out w14 (bnext hb13 hb14)))
         | (go_at_call 14; with_reducible refine (HC3.out w14 _ _ _ tb1 rk1).mono ?_; rintro e w15 ⟨rfl,hb15⟩))
        go_meet
        case rel=>exact ⟨rfl,bnext (bnext hb13 hb14) hb15⟩
       ·have hkb:decide (1<k)=false:=decide_eq_false hk
        go_wp2_with (first
         | (go_at_call 14; with_reducible refine (HC1.out w12 _ _ _ tb0 rk0).mono ?_; rintro e w13 ⟨rfl,hb13⟩; (obtain ⟨⟨h0,h1,h2⟩,tb1,rk1,_⟩:=HQ.out w13 hb13))
         | (go_at_call 14; with_reducible refine (HC3.out w13 _ _ _ tb1 rk1).mono ?_; rintro e w15 ⟨rfl,hb15⟩))
        go_meet
        case rel=>exact ⟨rfl,bnext hb13 hb15⟩
      case rest =>
       obtain ⟨rfl,HBc⟩:=hcut
       clear b0 b1 b2 tb0 rk0 hn1 HC1 HC2 HC3
       go_upto_region 25 with (fail)
       have HZc:Hid (∀ Z,Below wc.heap.size wc Z→(Z.cell? ⟨w.heap.size,3,none⟩=some (.int .u64 (n:Int))∧Z.cell? ⟨w.heap.size,4,none⟩=some (.slice (some ⟨sb,so,none⟩) S.length sc))∧Z.cell? ⟨sb,so,none⟩=some (.int .u64 (i:Int))∧Frs Z f k T):=fun Z hZ=>by
        obtain ⟨g1,g2,_,g4,_⟩:=HG.out Z (HQ.out Z (bnext HBc.out hZ)).2.2.2
        have e1:=g2.rs.at HS0.out.1
        rw [HS0.out.2.2] at e1
        exact ⟨⟨g1.cells.2.2.2.1,g1.cells.2.2.2.2⟩,e1,g4⟩
       refine wp_region_planJ (by kernel_rfl) (by kernel_rfl) (Zf _ wc w.heap.size (f+1) k n i sb so S.length sc E)
        (fun Z _ hZ => { sz:=rfl,df:=rfl,i1:=rfl,i3:=rfl,fr:=(fun _ _=>rfl),be:=hZ,a0:=(fun h=>by cases h),a1:=(fun h=>by cases h),a2:=(fun h=>by cases h),a3:=(fun h=>by cases h),a4:=(fun h=>by cases h),a5:=(fun h=>by cases h),a6:=(fun h=>by cases h),a10:=(fun h=>by cases h),a11:=(fun h=>by cases h),a13:=(fun h=>by cases h),cl:=⟨0,0,none,0,(fun h=>by cases h),(fun h=>by cases h),(fun h=>by cases h),(fun h=>by cases h)⟩ })
        ⟨zf_0,zf_1,zf_2 rfl (fun Z hZ=>(HZc.out Z hZ).1),zf_3,zf_4 rfl (fun Z hZ=>(HZc.out Z hZ).1),zf_5 rfl HS0.out.1,zf_6 rfl (fun Z hZ=>(HZc.out Z hZ).2.1),zf_7 rfl rfl rfl rfl rfl rfl (fun Z hZ=>HPp.out Z f (HZc.out Z hZ).2.2),zf_8 rfl,zf_9 rfl,zf_10 rfl,zf_11 rfl,zf_12 rfl rfl,zf_13 rfl,trivial⟩ ?_
       intro Le a7 w20 hall hI2
       obtain ⟨bs,cs2,ad2,cd2,k7,k8,k9,k12⟩:=hI2.cl
       obtain ⟨q14,e14,_⟩:=hI2.a11 (hall 11 (by decide))
       have x14:=k12 (hall 12 (by decide)) q14 e14
       obtain ⟨e151,o1,o2⟩:=k7 (hall 7 (by decide))
       have ha7:=act_putsI (sl:=[144,145,146,147,148,149,150,151,143,152,153,14,15]) (vs:=[.pointer (some ⟨f+1,0,none⟩),.pointer (some ⟨w.heap.size,3,none⟩),.int .u64 (n:Int),.pointer (some ⟨w.heap.size,4,none⟩),.slice (some ⟨sb,so,none⟩) S.length sc,.pointer (some ⟨sb,so,none⟩),.int .u64 (i:Int),.tuple #[.agg #[.int .i64 1,.int .i64 k,.int .u64 0,.int .u64 (n:Int),.slice (some ⟨bs,0,none⟩) 1 cs2,.slice ad2 E.length cd2],.int .i64 0],.tuple #[.agg #[.int .i64 1,.int .i64 k,.int .u64 0,.int .u64 (n:Int),.slice (some ⟨bs,0,none⟩) 1 cs2,.slice ad2 E.length cd2],.int .i64 0],.agg #[.int .i64 1,.int .i64 k,.int .u64 0,.int .u64 (n:Int),.slice (some ⟨bs,0,none⟩) 1 cs2,.slice ad2 E.length cd2],.int .i64 0,.pointer (some ⟨q14,0,none⟩),.int .i64 0]) hI2.df hI2.sz hI2.fr (fun q hq=>by
        match q,hq with
        | 0,_=>exact hI2.a0 (hall 0 (by decide))
        | 1,_=>exact hI2.a1 (hall 1 (by decide))
        | 2,_=>exact hI2.a2 (hall 2 (by decide))
        | 3,_=>exact hI2.a3 (hall 3 (by decide))
        | 4,_=>exact hI2.a4 (hall 4 (by decide))
        | 5,_=>exact hI2.a5 (hall 5 (by decide))
        | 6,_=>exact hI2.a6 (hall 6 (by decide))
        | 7,_=>exact e151
        | 8,_=>exact k8 (hall 8 (by decide))
        | 9,_=>exact k9 (hall 9 (by decide))
        | 10,_=>exact hI2.a10 (hall 10 (by decide))
        | 11,_=>exact e14
        | 12,_=>exact hI2.a13 (hall 13 (by decide))
        | q+13,hq=>exact absurd hq (by show ¬ q+13<13; omega)) rfl (nodup_getD (by decide))
       rw [ha7]
       clear ha7
       have HBq:Hid (Below w12.heap.size w12 w20):=bnext HBc.out hI2.be
       have HOq:=hide (And.intro o1 o2)
       obtain ⟨z0,z1,z2,z3,z4,z5⟩:=x14.cells
       clear hI2 hall o1 o2 e14 x14 e151 k7 k8 k9 k12 HZc HBc HPp
       simp only [puts]
       go_simp
       go_upto_region 27 with (go_at_call 13; with_reducible refine (HE2.out w20 _ _ _ _ _ HOq.out.1 HOq.out.2).mono ?_; rintro e w21 ⟨rfl,hb21⟩)
       have HQ2:Hid (∀ F,Below w21.heap.size w21 F→(F.cell? ⟨w.heap.size,0,none⟩=some (.int .i64 k)∧F.cell? ⟨q6,0,none⟩=some (.int .u64 (n:Int))∧F.cell? ⟨q6,1,none⟩=some (.string rr))∧Tb F∧RdK F (some ⟨cb,0,none⟩) cb 0 S.length (clm T S S.length)∧Below w5.heap.size w5 F):=fun F hF=>HQ.out F (bnext (bnext HBq.out hb21) hF)
       clear z0 z1 z2 z3 z4 z5 HQ HBq hb21 HOq HE2
       have h1c:(1:Int)≤(vc:Int):=by have:=HCp.out; have:=HS0.out.1; omega
       have hz1:(0:Int)≤(S.length:Int):=Int.natCast_nonneg _
       go_cut [188] from 159 to 187 (fun x wx=>x = .bool false∧Hid (Below w21.heap.size w21 wx))
       case first =>
        by_cases hl:1<S.length
        ·have hl1:(1:Int)<(S.length:Int):=by omega
         refine wp_region_planI (by kernel_rfl) [159,160,161,162,163,164,165,166,167,168,169,170,171,172,173,174,175,176,177,178,179,180,181,182,183,184,185,186,187,188] [] [.int .i64 0,.bool false,.bool false,.int .i64 0,.bool false,.bool false,.bool false,.pointer (some ⟨w.heap.size,0,none⟩),.int .i64 k,.agg #[.int .u64 (n:Int),.string rr],.slice (some ⟨cb,0,none⟩) S.length vc,.slice (some ⟨cb,0,none⟩) 1 vc,.string t,.int .i64 0,.bool false,.bool false,.bool false,.slice (some ⟨cb,0,none⟩) S.length vc,.int .i64 (S.length:Int),.bool true,.bool true,.pointer (some ⟨w.heap.size,0,none⟩),.int .i64 k,.agg #[.int .u64 (n:Int),.string rr],.slice (some ⟨cb,0,none⟩) S.length vc,.string t,.int .i64 150,.bool false,.bool false,.bool false] (by kernel_rfl) rfl (fun j hj=>by cases hj) (fun _ W=>Below w21.heap.size w21 W) (fun W _ hb=>hb) ?step ?fin
         case step =>
          refine ⟨?_,?_,?_,?_,?_,?_,?_,?_,?_,?_,?_,?_,?_,?_,?_,?_,?_,?_,?_,?_,?_,?_,?_,?_,?_,?_,?_,?_,?_,?_,trivial⟩
          ·intro L Ac Wc K hI hj hcl hsm dep hK
           have t15:Ac.tmps.getD 15 undef = .int .i64 0:=hsm 15 rfl
           show Oper.wp _ _ Ac Wc K _
           go_simp
           exact hK _ _ (.inr rfl) hI
          ·intro L Ac Wc K hI hj hcl hsm dep hK
           have t159:Ac.tmps.getD 159 undef = .int .i64 0:=dep 0 rfl
           show Oper.wp _ _ Ac Wc K _
           go_simp
           exact hK _ _ (.inr rfl) hI
          ·intro L Ac Wc K hI hj hcl hsm dep hK
           have t160:Ac.tmps.getD 160 undef = .bool false:=dep 1 rfl
           show Oper.wp _ _ Ac Wc K _
           go_simp
           exact hK _ _ (.inr rfl) hI
          ·intro L Ac Wc K hI hj hcl hsm dep hK
           have t17:Ac.tmps.getD 17 undef = .int .i64 0:=hsm 17 rfl
           refine ⟨false,(show Ac.tmps.getD 161 undef = .bool false from dep 2 rfl),?_⟩
           rw [if_pos rfl]
           go_simp
           exact hK _ _ (.inr rfl) hI
          ·intro L Ac Wc K hI hj hcl hsm dep hK
           have t162:Ac.tmps.getD 162 undef = .int .i64 0:=dep 3 rfl
           refine ⟨false,(show Ac.tmps.getD 161 undef = .bool false from dep 2 rfl),?_⟩
           rw [if_pos rfl]
           go_simp
           exact hK _ _ (.inr rfl) hI
          ·intro L Ac Wc K hI hj hcl hsm dep hK
           have t161:Ac.tmps.getD 161 undef = .bool false:=dep 2 rfl
           have t163:Ac.tmps.getD 163 undef = .bool false:=dep 4 rfl
           show Oper.wp _ _ Ac Wc K _
           go_simp
           exact hK _ _ (.inr rfl) hI
          ·intro L Ac Wc K hI hj hcl hsm dep hK
           have t164:Ac.tmps.getD 164 undef = .bool false:=dep 5 rfl
           show Oper.wp _ _ Ac Wc K _
           go_simp
           exact hK _ _ (.inr rfl) hI
          ·intro L Ac Wc K hI hj hcl hsm dep hK
           have t1:Ac.tmps.getD 1 undef = .pointer (some ⟨w.heap.size,0,none⟩):=hsm 1 rfl
           refine ⟨false,(show Ac.tmps.getD 165 undef = .bool false from dep 6 rfl),?_⟩
           rw [if_pos rfl]
           go_simp
           exact hK _ _ (.inr rfl) hI
          ·intro L Ac Wc K hI hj hcl hsm dep hK
           have t166:Ac.tmps.getD 166 undef = .pointer (some ⟨w.heap.size,0,none⟩):=dep 7 rfl
           refine ⟨false,(show Ac.tmps.getD 165 undef = .bool false from dep 6 rfl),?_⟩
           rw [if_pos rfl]
           obtain ⟨⟨p0,p1,p2⟩,tb1,rk1,_⟩:=HQ2.out Wc hI
           go_simp
           exact hK _ _ (.inr rfl) hI
          ·intro L Ac Wc K hI hj hcl hsm dep hK
           have t6:Ac.tmps.getD 6 undef = .pointer (some ⟨q6,0,none⟩):=hsm 6 rfl
           refine ⟨false,(show Ac.tmps.getD 165 undef = .bool false from dep 6 rfl),?_⟩
           rw [if_pos rfl]
           obtain ⟨⟨p0,p1,p2⟩,tb1,rk1,_⟩:=HQ2.out Wc hI
           go_simp
           exact hK _ _ (.inr rfl) hI
          ·intro L Ac Wc K hI hj hcl hsm dep hK
           have t10:Ac.tmps.getD 10 undef = .slice (some ⟨cb,0,none⟩) S.length vc:=hsm 10 rfl
           refine ⟨false,(show Ac.tmps.getD 165 undef = .bool false from dep 6 rfl),?_⟩
           rw [if_pos rfl]
           go_simp
           exact hK _ _ (.inr rfl) hI
          ·intro L Ac Wc K hI hj hcl hsm dep hK
           have t169:Ac.tmps.getD 169 undef = .slice (some ⟨cb,0,none⟩) S.length vc:=dep 10 rfl
           refine ⟨false,(show Ac.tmps.getD 165 undef = .bool false from dep 6 rfl),?_⟩
           rw [if_pos rfl]
           go_simp
           exact hK _ _ (.inr rfl) hI
          ·intro L Ac Wc K hI hj hcl hsm dep hK
           have t16:Ac.tmps.getD 16 undef = .string t:=hsm 16 rfl
           refine ⟨false,(show Ac.tmps.getD 165 undef = .bool false from dep 6 rfl),?_⟩
           rw [if_pos rfl]
           go_simp
           exact hK _ _ (.inr rfl) hI
          ·intro L Ac Wc K hI hj hcl hsm dep hK
           have t167:Ac.tmps.getD 167 undef = .int .i64 k:=dep 8 rfl
           have t168:Ac.tmps.getD 168 undef = .agg #[.int .u64 (n:Int),.string rr]:=dep 9 rfl
           have t170:Ac.tmps.getD 170 undef = .slice (some ⟨cb,0,none⟩) 1 vc:=dep 11 rfl
           have t171:Ac.tmps.getD 171 undef = .string t:=dep 12 rfl
           refine ⟨false,(show Ac.tmps.getD 165 undef = .bool false from dep 6 rfl),?_⟩
           rw [if_pos rfl]
           obtain ⟨⟨p0,p1,p2⟩,tb1,rk1,_⟩:=HQ2.out Wc hI
           go_simp
           refine (HC4.out Wc _ _ _ tb1 rk1).mono ?_
           rintro e w' ⟨rfl,hb'⟩
           exact hK _ _ (.inr rfl) (bnext hI hb')
          ·intro L Ac Wc K hI hj hcl hsm dep hK
           have t172:Ac.tmps.getD 172 undef = .int .i64 0:=dep 13 rfl
           refine ⟨false,(show Ac.tmps.getD 165 undef = .bool false from dep 6 rfl),?_⟩
           rw [if_pos rfl]
           go_simp
           exact hK _ _ (.inr rfl) hI
          ·intro L Ac Wc K hI hj hcl hsm dep hK
           have t165:Ac.tmps.getD 165 undef = .bool false:=dep 6 rfl
           have t173:Ac.tmps.getD 173 undef = .bool false:=dep 14 rfl
           show Oper.wp _ _ Ac Wc K _
           go_simp
           exact hK _ _ (.inr rfl) hI
          ·intro L Ac Wc K hI hj hcl hsm dep hK
           have t174:Ac.tmps.getD 174 undef = .bool false:=dep 15 rfl
           show Oper.wp _ _ Ac Wc K _
           go_simp
           exact hK _ _ (.inr rfl) hI
          ·intro L Ac Wc K hI hj hcl hsm dep hK
           have t10:Ac.tmps.getD 10 undef = .slice (some ⟨cb,0,none⟩) S.length vc:=hsm 10 rfl
           refine ⟨false,(show Ac.tmps.getD 175 undef = .bool false from dep 16 rfl),?_⟩
           rw [if_pos rfl]
           go_simp
           exact hK _ _ (.inr rfl) hI
          ·intro L Ac Wc K hI hj hcl hsm dep hK
           have t176:Ac.tmps.getD 176 undef = .slice (some ⟨cb,0,none⟩) S.length vc:=dep 17 rfl
           refine ⟨false,(show Ac.tmps.getD 175 undef = .bool false from dep 16 rfl),?_⟩
           rw [if_pos rfl]
           go_simp
           exact hK _ _ (.inr rfl) hI
          ·intro L Ac Wc K hI hj hcl hsm dep hK
           have t177:Ac.tmps.getD 177 undef = .int .i64 (S.length:Int):=dep 18 rfl
           refine ⟨false,(show Ac.tmps.getD 175 undef = .bool false from dep 16 rfl),?_⟩
           rw [if_pos rfl]
           go_simp
           exact hK _ _ (.inr rfl) hI
          ·intro L Ac Wc K hI hj hcl hsm dep hK
           have t178:Ac.tmps.getD 178 undef = .bool true:=dep 19 rfl
           refine ⟨false,(show Ac.tmps.getD 175 undef = .bool false from dep 16 rfl),?_⟩
           rw [if_pos rfl]
           go_simp
           exact hK _ _ (.inr rfl) hI
          ·intro L Ac Wc K hI hj hcl hsm dep hK
           have t1:Ac.tmps.getD 1 undef = .pointer (some ⟨w.heap.size,0,none⟩):=hsm 1 rfl
           refine ⟨true,(show Ac.tmps.getD 179 undef = .bool true from dep 20 rfl),?_⟩
           rw [if_pos rfl]
           go_simp
           exact hK _ _ (.inr rfl) hI
          ·intro L Ac Wc K hI hj hcl hsm dep hK
           have t180:Ac.tmps.getD 180 undef = .pointer (some ⟨w.heap.size,0,none⟩):=dep 21 rfl
           refine ⟨true,(show Ac.tmps.getD 179 undef = .bool true from dep 20 rfl),?_⟩
           rw [if_pos rfl]
           obtain ⟨⟨p0,p1,p2⟩,tb1,rk1,_⟩:=HQ2.out Wc hI
           go_simp
           exact hK _ _ (.inr rfl) hI
          ·intro L Ac Wc K hI hj hcl hsm dep hK
           have t6:Ac.tmps.getD 6 undef = .pointer (some ⟨q6,0,none⟩):=hsm 6 rfl
           refine ⟨true,(show Ac.tmps.getD 179 undef = .bool true from dep 20 rfl),?_⟩
           rw [if_pos rfl]
           obtain ⟨⟨p0,p1,p2⟩,tb1,rk1,_⟩:=HQ2.out Wc hI
           go_simp
           exact hK _ _ (.inr rfl) hI
          ·intro L Ac Wc K hI hj hcl hsm dep hK
           have t10:Ac.tmps.getD 10 undef = .slice (some ⟨cb,0,none⟩) S.length vc:=hsm 10 rfl
           refine ⟨true,(show Ac.tmps.getD 179 undef = .bool true from dep 20 rfl),?_⟩
           rw [if_pos rfl]
           go_simp
           exact hK _ _ (.inr rfl) hI
          ·intro L Ac Wc K hI hj hcl hsm dep hK
           have t16:Ac.tmps.getD 16 undef = .string t:=hsm 16 rfl
           refine ⟨true,(show Ac.tmps.getD 179 undef = .bool true from dep 20 rfl),?_⟩
           rw [if_pos rfl]
           go_simp
           exact hK _ _ (.inr rfl) hI
          ·intro L Ac Wc K hI hj hcl hsm dep hK
           have t181:Ac.tmps.getD 181 undef = .int .i64 k:=dep 22 rfl
           have t182:Ac.tmps.getD 182 undef = .agg #[.int .u64 (n:Int),.string rr]:=dep 23 rfl
           have t183:Ac.tmps.getD 183 undef = .slice (some ⟨cb,0,none⟩) S.length vc:=dep 24 rfl
           have t184:Ac.tmps.getD 184 undef = .string t:=dep 25 rfl
           refine ⟨true,(show Ac.tmps.getD 179 undef = .bool true from dep 20 rfl),?_⟩
           rw [if_pos rfl]
           obtain ⟨⟨p0,p1,p2⟩,tb1,rk1,_⟩:=HQ2.out Wc hI
           go_simp
           refine (HC5.out Wc _ _ _ hl rk1).mono ?_
           rintro e w' ⟨rfl,hb'⟩
           exact hK _ _ (.inr rfl) (bnext hI hb')
          ·intro L Ac Wc K hI hj hcl hsm dep hK
           have t185:Ac.tmps.getD 185 undef = .int .i64 150:=dep 26 rfl
           refine ⟨true,(show Ac.tmps.getD 179 undef = .bool true from dep 20 rfl),?_⟩
           rw [if_pos rfl]
           go_simp
           exact hK _ _ (.inr rfl) hI
          ·intro L Ac Wc K hI hj hcl hsm dep hK
           have t179:Ac.tmps.getD 179 undef = .bool true:=dep 20 rfl
           have t186:Ac.tmps.getD 186 undef = .bool false:=dep 27 rfl
           refine ⟨false,(show Ac.tmps.getD 175 undef = .bool false from dep 16 rfl),?_⟩
           rw [if_pos rfl]
           go_simp
           exact hK _ _ (.inr rfl) hI
          ·intro L Ac Wc K hI hj hcl hsm dep hK
           have t175:Ac.tmps.getD 175 undef = .bool false:=dep 16 rfl
           have t187:Ac.tmps.getD 187 undef = .bool false:=dep 28 rfl
           show Oper.wp _ _ Ac Wc K _
           go_simp
           exact hK _ _ (.inr rfl) hI
         case fin =>
          intro Ld w22 hall hI
          simp only [puts]
          go_simp
          go_wp2
          go_meet
          case rel=>exact ⟨rfl,hI⟩
        ·have hl1 : ¬ (1:Int)<(S.length:Int):=by omega
         refine wp_region_planI (by kernel_rfl) [159,160,161,162,163,164,165,166,167,168,169,170,171,172,173,174,175,176,177,178,179,180,181,182,183,184,185,186,187,188] [] [.int .i64 0,.bool false,.bool false,.int .i64 0,.bool false,.bool false,.bool false,.pointer (some ⟨w.heap.size,0,none⟩),.int .i64 k,.agg #[.int .u64 (n:Int),.string rr],.slice (some ⟨cb,0,none⟩) S.length vc,.slice (some ⟨cb,0,none⟩) 1 vc,.string t,.int .i64 0,.bool false,.bool false,.bool false,.slice (some ⟨cb,0,none⟩) S.length vc,.int .i64 (S.length:Int),.bool false,.bool false,undef,undef,undef,undef,undef,undef,undef,.bool false,.bool false] (by kernel_rfl) rfl (fun j hj=>by cases hj) (fun _ W=>Below w21.heap.size w21 W) (fun W _ hb=>hb) ?step ?fin
         case step =>
          refine ⟨?_,?_,?_,?_,?_,?_,?_,?_,?_,?_,?_,?_,?_,?_,?_,?_,?_,?_,?_,?_,?_,?_,?_,?_,?_,?_,?_,?_,?_,?_,trivial⟩
          ·intro L Ac Wc K hI hj hcl hsm dep hK
           have t15:Ac.tmps.getD 15 undef = .int .i64 0:=hsm 15 rfl
           show Oper.wp _ _ Ac Wc K _
           go_simp
           exact hK _ _ (.inr rfl) hI
          ·intro L Ac Wc K hI hj hcl hsm dep hK
           have t159:Ac.tmps.getD 159 undef = .int .i64 0:=dep 0 rfl
           show Oper.wp _ _ Ac Wc K _
           go_simp
           exact hK _ _ (.inr rfl) hI
          ·intro L Ac Wc K hI hj hcl hsm dep hK
           have t160:Ac.tmps.getD 160 undef = .bool false:=dep 1 rfl
           show Oper.wp _ _ Ac Wc K _
           go_simp
           exact hK _ _ (.inr rfl) hI
          ·intro L Ac Wc K hI hj hcl hsm dep hK
           have t17:Ac.tmps.getD 17 undef = .int .i64 0:=hsm 17 rfl
           refine ⟨false,(show Ac.tmps.getD 161 undef = .bool false from dep 2 rfl),?_⟩
           rw [if_pos rfl]
           go_simp
           exact hK _ _ (.inr rfl) hI
          ·intro L Ac Wc K hI hj hcl hsm dep hK
           have t162:Ac.tmps.getD 162 undef = .int .i64 0:=dep 3 rfl
           refine ⟨false,(show Ac.tmps.getD 161 undef = .bool false from dep 2 rfl),?_⟩
           rw [if_pos rfl]
           go_simp
           exact hK _ _ (.inr rfl) hI
          ·intro L Ac Wc K hI hj hcl hsm dep hK
           have t161:Ac.tmps.getD 161 undef = .bool false:=dep 2 rfl
           have t163:Ac.tmps.getD 163 undef = .bool false:=dep 4 rfl
           show Oper.wp _ _ Ac Wc K _
           go_simp
           exact hK _ _ (.inr rfl) hI
          ·intro L Ac Wc K hI hj hcl hsm dep hK
           have t164:Ac.tmps.getD 164 undef = .bool false:=dep 5 rfl
           show Oper.wp _ _ Ac Wc K _
           go_simp
           exact hK _ _ (.inr rfl) hI
          ·intro L Ac Wc K hI hj hcl hsm dep hK
           have t1:Ac.tmps.getD 1 undef = .pointer (some ⟨w.heap.size,0,none⟩):=hsm 1 rfl
           refine ⟨false,(show Ac.tmps.getD 165 undef = .bool false from dep 6 rfl),?_⟩
           rw [if_pos rfl]
           go_simp
           exact hK _ _ (.inr rfl) hI
          ·intro L Ac Wc K hI hj hcl hsm dep hK
           have t166:Ac.tmps.getD 166 undef = .pointer (some ⟨w.heap.size,0,none⟩):=dep 7 rfl
           refine ⟨false,(show Ac.tmps.getD 165 undef = .bool false from dep 6 rfl),?_⟩
           rw [if_pos rfl]
           obtain ⟨⟨p0,p1,p2⟩,tb1,rk1,_⟩:=HQ2.out Wc hI
           go_simp
           exact hK _ _ (.inr rfl) hI
          ·intro L Ac Wc K hI hj hcl hsm dep hK
           have t6:Ac.tmps.getD 6 undef = .pointer (some ⟨q6,0,none⟩):=hsm 6 rfl
           refine ⟨false,(show Ac.tmps.getD 165 undef = .bool false from dep 6 rfl),?_⟩
           rw [if_pos rfl]
           obtain ⟨⟨p0,p1,p2⟩,tb1,rk1,_⟩:=HQ2.out Wc hI
           go_simp
           exact hK _ _ (.inr rfl) hI
          ·intro L Ac Wc K hI hj hcl hsm dep hK
           have t10:Ac.tmps.getD 10 undef = .slice (some ⟨cb,0,none⟩) S.length vc:=hsm 10 rfl
           refine ⟨false,(show Ac.tmps.getD 165 undef = .bool false from dep 6 rfl),?_⟩
           rw [if_pos rfl]
           go_simp
           exact hK _ _ (.inr rfl) hI
          ·intro L Ac Wc K hI hj hcl hsm dep hK
           have t169:Ac.tmps.getD 169 undef = .slice (some ⟨cb,0,none⟩) S.length vc:=dep 10 rfl
           refine ⟨false,(show Ac.tmps.getD 165 undef = .bool false from dep 6 rfl),?_⟩
           rw [if_pos rfl]
           go_simp
           exact hK _ _ (.inr rfl) hI
          ·intro L Ac Wc K hI hj hcl hsm dep hK
           have t16:Ac.tmps.getD 16 undef = .string t:=hsm 16 rfl
           refine ⟨false,(show Ac.tmps.getD 165 undef = .bool false from dep 6 rfl),?_⟩
           rw [if_pos rfl]
           go_simp
           exact hK _ _ (.inr rfl) hI
          ·intro L Ac Wc K hI hj hcl hsm dep hK
           have t167:Ac.tmps.getD 167 undef = .int .i64 k:=dep 8 rfl
           have t168:Ac.tmps.getD 168 undef = .agg #[.int .u64 (n:Int),.string rr]:=dep 9 rfl
           have t170:Ac.tmps.getD 170 undef = .slice (some ⟨cb,0,none⟩) 1 vc:=dep 11 rfl
           have t171:Ac.tmps.getD 171 undef = .string t:=dep 12 rfl
           refine ⟨false,(show Ac.tmps.getD 165 undef = .bool false from dep 6 rfl),?_⟩
           rw [if_pos rfl]
           obtain ⟨⟨p0,p1,p2⟩,tb1,rk1,_⟩:=HQ2.out Wc hI
           go_simp
           refine (HC4.out Wc _ _ _ tb1 rk1).mono ?_
           rintro e w' ⟨rfl,hb'⟩
           exact hK _ _ (.inr rfl) (bnext hI hb')
          ·intro L Ac Wc K hI hj hcl hsm dep hK
           have t172:Ac.tmps.getD 172 undef = .int .i64 0:=dep 13 rfl
           refine ⟨false,(show Ac.tmps.getD 165 undef = .bool false from dep 6 rfl),?_⟩
           rw [if_pos rfl]
           go_simp
           exact hK _ _ (.inr rfl) hI
          ·intro L Ac Wc K hI hj hcl hsm dep hK
           have t165:Ac.tmps.getD 165 undef = .bool false:=dep 6 rfl
           have t173:Ac.tmps.getD 173 undef = .bool false:=dep 14 rfl
           show Oper.wp _ _ Ac Wc K _
           go_simp
           exact hK _ _ (.inr rfl) hI
          ·intro L Ac Wc K hI hj hcl hsm dep hK
           have t174:Ac.tmps.getD 174 undef = .bool false:=dep 15 rfl
           show Oper.wp _ _ Ac Wc K _
           go_simp
           exact hK _ _ (.inr rfl) hI
          ·intro L Ac Wc K hI hj hcl hsm dep hK
           have t10:Ac.tmps.getD 10 undef = .slice (some ⟨cb,0,none⟩) S.length vc:=hsm 10 rfl
           refine ⟨false,(show Ac.tmps.getD 175 undef = .bool false from dep 16 rfl),?_⟩
           rw [if_pos rfl]
           go_simp
           exact hK _ _ (.inr rfl) hI
          ·intro L Ac Wc K hI hj hcl hsm dep hK
           have t176:Ac.tmps.getD 176 undef = .slice (some ⟨cb,0,none⟩) S.length vc:=dep 17 rfl
           refine ⟨false,(show Ac.tmps.getD 175 undef = .bool false from dep 16 rfl),?_⟩
           rw [if_pos rfl]
           go_simp
           exact hK _ _ (.inr rfl) hI
          ·intro L Ac Wc K hI hj hcl hsm dep hK
           have t177:Ac.tmps.getD 177 undef = .int .i64 (S.length:Int):=dep 18 rfl
           refine ⟨false,(show Ac.tmps.getD 175 undef = .bool false from dep 16 rfl),?_⟩
           rw [if_pos rfl]
           go_simp
           exact hK _ _ (.inr rfl) hI
          ·intro L Ac Wc K hI hj hcl hsm dep hK
           have t178:Ac.tmps.getD 178 undef = .bool false:=dep 19 rfl
           refine ⟨false,(show Ac.tmps.getD 175 undef = .bool false from dep 16 rfl),?_⟩
           rw [if_pos rfl]
           go_simp
           exact hK _ _ (.inr rfl) hI
          ·intro L Ac Wc K hI hj hcl hsm dep hK
           refine ⟨false,(show Ac.tmps.getD 179 undef = .bool false from dep 20 rfl),?_⟩
           rw [if_neg (by decide)]
           exact hK _ _ (.inr rfl) hI
          ·intro L Ac Wc K hI hj hcl hsm dep hK
           refine ⟨false,(show Ac.tmps.getD 179 undef = .bool false from dep 20 rfl),?_⟩
           rw [if_neg (by decide)]
           exact hK _ _ (.inr rfl) hI
          ·intro L Ac Wc K hI hj hcl hsm dep hK
           refine ⟨false,(show Ac.tmps.getD 179 undef = .bool false from dep 20 rfl),?_⟩
           rw [if_neg (by decide)]
           exact hK _ _ (.inr rfl) hI
          ·intro L Ac Wc K hI hj hcl hsm dep hK
           refine ⟨false,(show Ac.tmps.getD 179 undef = .bool false from dep 20 rfl),?_⟩
           rw [if_neg (by decide)]
           exact hK _ _ (.inr rfl) hI
          ·intro L Ac Wc K hI hj hcl hsm dep hK
           refine ⟨false,(show Ac.tmps.getD 179 undef = .bool false from dep 20 rfl),?_⟩
           rw [if_neg (by decide)]
           exact hK _ _ (.inr rfl) hI
          ·intro L Ac Wc K hI hj hcl hsm dep hK
           refine ⟨false,(show Ac.tmps.getD 179 undef = .bool false from dep 20 rfl),?_⟩
           rw [if_neg (by decide)]
           exact hK _ _ (.inr rfl) hI
          ·intro L Ac Wc K hI hj hcl hsm dep hK
           refine ⟨false,(show Ac.tmps.getD 179 undef = .bool false from dep 20 rfl),?_⟩
           rw [if_neg (by decide)]
           exact hK _ _ (.inr rfl) hI
          ·intro L Ac Wc K hI hj hcl hsm dep hK
           have t179:Ac.tmps.getD 179 undef = .bool false:=dep 20 rfl
           have t186:Ac.tmps.getD 186 undef=undef:=dep 27 rfl
           refine ⟨false,(show Ac.tmps.getD 175 undef = .bool false from dep 16 rfl),?_⟩
           rw [if_pos rfl]
           go_simp
           exact hK _ _ (.inr rfl) hI
          ·intro L Ac Wc K hI hj hcl hsm dep hK
           have t175:Ac.tmps.getD 175 undef = .bool false:=dep 16 rfl
           have t187:Ac.tmps.getD 187 undef = .bool false:=dep 28 rfl
           show Oper.wp _ _ Ac Wc K _
           go_simp
           exact hK _ _ (.inr rfl) hI
         case fin =>
          intro Ld w22 hall hI
          simp only [puts]
          go_simp
          go_wp2
          go_meet
          case rel=>exact ⟨rfl,hI⟩
       case rest =>
        rename World=>wd
        obtain ⟨rfl,HBd⟩:=hcut
        have HBT:Hid (Below w5.heap.size w5 wd):=(HQ2.out _ HBd.out).2.2.2
        clear HQ2 HBd HC4 HC5 HO HS HSz HS0 HCp
        obtain ⟨t0,t1,t2,t3,t4⟩:=(HG.out wd HBT.out).1.cells
        by_cases hm:m≤T.length
        ·obtain ⟨rm,hrm⟩ : ∃ rm,rtD (clk k) T m=rm:=⟨_,rfl⟩
         have HR1:=HRt.out m hm wd (HG.out wd HBT.out).2.2.2.2.2.1
         rw [hrm] at HR1
         go_upto_region 30 with (go_at_call 9; with_reducible refine HR1.mono ?_; rintro e v1 ⟨rfl,hv1⟩)
         obtain ⟨v2,hv2,x8,hv3⟩:=rh_box v1 m rm
         try rw [hv2]
         clear hv2 HR1
         have HG2:Hid (∀ F,Below v2.heap.size v2 F→Fv F w.heap.size (.int .i64 k) (.slice la Li.length lc) (.int .u64 (m:Int)) (.int .u64 (n:Int)) (.slice (some ⟨sb,so,none⟩) S.length sc)∧Frs F f k T∧Rh F q6 n rr∧Rh F v1.heap.size m rm∧Tb F∧Below w.heap.size w F):=fun F hF=>by
          obtain ⟨x1,x2,x3,x4,x5,x6,x7⟩:=HG.out F (bnext (bnext HBT.out (bnext hv1 hv3)) hF)
          exact ⟨x1,x4,x5,x8.next hF,x2.tb,x7⟩
         obtain ⟨q8,hq8⟩ : ∃ q8,v1.heap.size=q8:=⟨_,rfl⟩
         rw [hq8] at HG2
         try rw [hq8]
         have HM:=hide (And.intro hm hrm)
         obtain ⟨s0,s1,s2,s3,s4⟩:=(HG2.out v2 (Below.refl _ _)).1.cells
         clear t0 t1 t2 t3 t4 hv1 hv3 x8 HG hm hrm hq8
         by_cases hmn:m≤n
         ·have hmi : ¬ ((n:Int)<(m:Int)):=by omega
          have hmb:decide ((n:Int)<(m:Int))=false:=decide_eq_false hmi
          obtain ⟨F2,u,g1,g2,g3⟩:=kin_calls HF2.out.1.1 HF2.out.1.2 T HZ.out.1 HN.out.1 hmn rm rr HM.out.2 HN.out.2
          have HKp:=hide g1
          have HE3:=hide g2
          have HKn:=hide g3
          have HCk:Hid (∀ W,Calls Tryz.prog 17 #[.int .i64 k] W fun e w'=>e = .returned (.int .i64 0)∧w'=W):=fun W=>by have:=refcheck_any W k; rw [chk_ok HF2.out.1.1 HF2.out.1.2] at this; exact this
          have HU:=hide (HG2.out v2 (Below.refl _ _)).2.1
          clear g1 g2 g3 hmn
          go_upto_region 33 with (go_at_call 12; with_reducible refine (HKp.out _ _ HU.out).mono ?_; rintro e v4 ⟨ad9,bd9,cd9,rfl,HP9,hv4⟩)
          obtain ⟨v5,hv5,x9,hv6,_⟩:=box6 v4 (.int .i64 3) (.int .i64 k) (.int .u64 (m:Int)) (.int .u64 (n:Int)) (.slice none 0 0) (.slice ad9 F2.length cd9)
          try rw [hv5]
          clear hv5 HU HKp s0 s1 s2 s3 s4
          obtain ⟨e0,e1,e2,e3,e4,e5⟩:=x9.cells
          have HP5:Hid (RdS v5 ad9 bd9 0 F2.length F2∧F2.length≤cd9):=⟨HP9.out.1.next hv6 (Nat.le_refl _),HP9.out.2⟩
          have HG3:Hid (∀ F,Below v5.heap.size v5 F→(F.cell? ⟨w.heap.size,0,none⟩=some (.int .i64 k)∧(F.cell? ⟨q6,0,none⟩=some (.int .u64 (n:Int))∧F.cell? ⟨q6,1,none⟩=some (.string rr))∧F.cell? ⟨q8,0,none⟩=some (.int .u64 (m:Int))∧F.cell? ⟨q8,1,none⟩=some (.string rm))∧Tb F∧Below w.heap.size w F):=fun F hF=>by
           obtain ⟨x1,_,x3,x4,x5,x6⟩:=HG2.out F (bnext (bnext hv4 hv6) hF)
           exact ⟨⟨x1.cells.1,x3.cells,x4.cells⟩,x5,x6⟩
          clear HP9 hv4 hv6 x9 HG2
          go_wp2_with (first
           | (go_at_call 13; with_reducible refine (HE3.out v5 _ _ _ HP5.out.1 HP5.out.2).mono ?_; rintro e v6 ⟨rfl,hv7⟩; (obtain ⟨⟨f0,⟨f1,f2⟩,f3,f4⟩,tb6,_⟩:=HG3.out v6 hv7))
           | (go_at_call 15; with_reducible refine (HKn.out v6 tb6).mono ?_; rintro e v7 ⟨rfl,hv8⟩; (obtain ⟨⟨h0,⟨h1,h2⟩,h3,h4⟩,_,_⟩:=HG3.out v7 (bnext hv7 hv8)))
           | (go_at_call 17; with_reducible refine (HCk.out _).mono ?_; rintro e v8 ⟨rfl,rfl⟩))
          go_ret
          exact ⟨rfl,(HG3.out _ (bnext hv7 hv8)).2.2⟩
         ·have hmi:(n:Int)<(m:Int):=by omega
          have hmb:decide ((n:Int)<(m:Int))=true:=decide_eq_true hmi
          have HB:=hide (HG2.out v2 (Below.refl _ _)).2.2.2.2.2
          clear HG2
          go_wp2
          go_ret
          exact ⟨rfl,HB.out⟩
        ·have HR1:=HRn.out m hm wd
         go_upto_region 30 with (go_at_call 9; with_reducible refine HR1.mono ?_; rintro e v1 ⟨rfl,hv1⟩)
         obtain ⟨v2,hv2,hv3⟩ : ∃ W,v1.alloc (.cells #[.int .u64 0,.string ⟨#[]⟩] 32)=W∧Below v1.heap.size v1 W:=⟨_,rfl,bal (Below.refl _ _) _⟩
         try rw [hv2]
         clear hv2 HR1
         have HB:=hide (HG.out v2 (bnext HBT.out (bnext hv1 hv3))).2.2.2.2.2.2
         clear t0 t1 t2 t3 t4 hv1 hv3 HG hm
         go_wp2
         go_ret
         exact ⟨rfl,HB.out⟩
   ·obtain ⟨ge,hge⟩ : ∃ ge:Int,(Cv.errS n S:Int)=ge:=⟨_,rfl⟩
    have hge0:ge≠0:=by omega
    have HP:Hid (Calls Tryz.prog 11 #[.pointer (some ⟨f+1,0,none⟩),.int .u64 (n:Int),.slice sa S.length sc] w5 fun e w'=>e = .returned (.tuple #[noP,.int .i64 ge])∧Below w5.heap.size w5 w'):=by
     have:=bprove_err w5 f k T HU.out.1 n HN.out.1 sa sb so S.length sc S HU.out.2 HZ.out.2.2.1 _ rfl he
     rw [hge] at this
     exact this
    go_upto_region 12 with (go_at_call 11; with_reducible refine HP.out.mono ?_; rintro e w6 ⟨rfl,hb6⟩)
    obtain ⟨w7,hw7,_,hb7,_⟩:=box6 w6 (.int .i64 0) (.int .i64 0) (.int .u64 0) (.int .u64 0) (.slice none 0 0) (.slice none 0 0)
    try rw [hw7]
    clear hw7 HU HP d0 d1 d2 d3 d4
    have HBT:Hid (Below w5.heap.size w5 w7):=bnext hb6 hb7
    clear hb6 hb7 hge he
    have hgb:(ge == 0)=false:=by simpa using hge0
    obtain ⟨t0,t1,t2,t3,t4⟩:=(HG.out w7 HBT.out).1.cells
    by_cases hm:m≤T.length
    ·obtain ⟨rm,hrm⟩ : ∃ rm,rtD (clk k) T m=rm:=⟨_,rfl⟩
     have HR1:=HRt.out m hm w7 (HG.out w7 HBT.out).2.2.2.2.2.1
     rw [hrm] at HR1
     go_upto_region 30 with (go_at_call 9; with_reducible refine HR1.mono ?_; rintro e v1 ⟨rfl,hv1⟩)
     obtain ⟨v2,hv2,x8,hv3⟩:=rh_box v1 m rm
     try rw [hv2]
     clear hv2 HR1
     have HG2:Hid (∀ F,Below v2.heap.size v2 F→Fv F w.heap.size (.int .i64 k) (.slice la Li.length lc) (.int .u64 (m:Int)) (.int .u64 (n:Int)) (.slice sa S.length sc)∧Frs F f k T∧Rh F q6 n rr∧Rh F v1.heap.size m rm∧Tb F∧Below w.heap.size w F):=fun F hF=>by
      obtain ⟨x1,x2,x3,x4,x5,x6,x7⟩:=HG.out F (bnext (bnext HBT.out (bnext hv1 hv3)) hF)
      exact ⟨x1,x4,x5,x8.next hF,x2.tb,x7⟩
     obtain ⟨q8,hq8⟩ : ∃ q8,v1.heap.size=q8:=⟨_,rfl⟩
     rw [hq8] at HG2
     try rw [hq8]
     have HM:=hide (And.intro hm hrm)
     obtain ⟨s0,s1,s2,s3,s4⟩:=(HG2.out v2 (Below.refl _ _)).1.cells
     clear t0 t1 t2 t3 t4 hv1 hv3 x8 HG hm hrm hq8
     by_cases hmn:m≤n
     ·have hmi : ¬ ((n:Int)<(m:Int)):=by omega
      have hmb:decide ((n:Int)<(m:Int))=false:=decide_eq_false hmi
      obtain ⟨F2,u,g1,g2,g3⟩:=kin_calls HF2.out.1.1 HF2.out.1.2 T HZ.out.1 HN.out.1 hmn rm rr HM.out.2 HN.out.2
      have HKp:=hide g1
      have HE3:=hide g2
      have HKn:=hide g3
      have HCk:Hid (∀ W,Calls Tryz.prog 17 #[.int .i64 k] W fun e w'=>e = .returned (.int .i64 0)∧w'=W):=fun W=>by have:=refcheck_any W k; rw [chk_ok HF2.out.1.1 HF2.out.1.2] at this; exact this
      have HU:=hide (HG2.out v2 (Below.refl _ _)).2.1
      clear g1 g2 g3 hmn
      go_upto_region 33 with (go_at_call 12; with_reducible refine (HKp.out _ _ HU.out).mono ?_; rintro e v4 ⟨ad9,bd9,cd9,rfl,HP9,hv4⟩)
      obtain ⟨v5,hv5,x9,hv6,_⟩:=box6 v4 (.int .i64 3) (.int .i64 k) (.int .u64 (m:Int)) (.int .u64 (n:Int)) (.slice none 0 0) (.slice ad9 F2.length cd9)
      try rw [hv5]
      clear hv5 HU HKp s0 s1 s2 s3 s4
      obtain ⟨e0,e1,e2,e3,e4,e5⟩:=x9.cells
      have HP5:Hid (RdS v5 ad9 bd9 0 F2.length F2∧F2.length≤cd9):=⟨HP9.out.1.next hv6 (Nat.le_refl _),HP9.out.2⟩
      have HG3:Hid (∀ F,Below v5.heap.size v5 F→(F.cell? ⟨w.heap.size,0,none⟩=some (.int .i64 k)∧(F.cell? ⟨q6,0,none⟩=some (.int .u64 (n:Int))∧F.cell? ⟨q6,1,none⟩=some (.string rr))∧F.cell? ⟨q8,0,none⟩=some (.int .u64 (m:Int))∧F.cell? ⟨q8,1,none⟩=some (.string rm))∧Tb F∧Below w.heap.size w F):=fun F hF=>by
       obtain ⟨x1,_,x3,x4,x5,x6⟩:=HG2.out F (bnext (bnext hv4 hv6) hF)
       exact ⟨⟨x1.cells.1,x3.cells,x4.cells⟩,x5,x6⟩
      clear HP9 hv4 hv6 x9 HG2
      go_wp2_with (first
       | (go_at_call 13; with_reducible refine (HE3.out v5 _ _ _ HP5.out.1 HP5.out.2).mono ?_; rintro e v6 ⟨rfl,hv7⟩; (obtain ⟨⟨f0,⟨f1,f2⟩,f3,f4⟩,tb6,_⟩:=HG3.out v6 hv7))
       | (go_at_call 15; with_reducible refine (HKn.out v6 tb6).mono ?_; rintro e v7 ⟨rfl,hv8⟩; (obtain ⟨⟨h0,⟨h1,h2⟩,h3,h4⟩,_,_⟩:=HG3.out v7 (bnext hv7 hv8)))
       | (go_at_call 17; with_reducible refine (HCk.out _).mono ?_; rintro e v8 ⟨rfl,rfl⟩))
      go_ret
      exact ⟨rfl,(HG3.out _ (bnext hv7 hv8)).2.2⟩
     ·have hmi:(n:Int)<(m:Int):=by omega
      have hmb:decide ((n:Int)<(m:Int))=true:=decide_eq_true hmi
      have HB:=hide (HG2.out v2 (Below.refl _ _)).2.2.2.2.2
      clear HG2
      go_wp2
      go_ret
      exact ⟨rfl,HB.out⟩
    ·have HR1:=HRn.out m hm w7
     go_upto_region 30 with (go_at_call 9; with_reducible refine HR1.mono ?_; rintro e v1 ⟨rfl,hv1⟩)
     obtain ⟨v2,hv2,hv3⟩ : ∃ W,v1.alloc (.cells #[.int .u64 0,.string ⟨#[]⟩] 32)=W∧Below v1.heap.size v1 W:=⟨_,rfl,bal (Below.refl _ _) _⟩
     try rw [hv2]
     clear hv2 HR1
     have HB:=hide (HG.out v2 (bnext HBT.out (bnext hv1 hv3))).2.2.2.2.2.2
     clear t0 t1 t2 t3 t4 hv1 hv3 HG hm
     go_wp2
     go_ret
     exact ⟨rfl,HB.out⟩
  ·have HR0:=HRn.out n hn w3
   go_upto_region 8 with (go_at_call 9; with_reducible refine HR0.mono ?_; rintro e w4 ⟨rfl,hb4⟩)
   obtain ⟨w5,hw5,hb5⟩ : ∃ W,w4.alloc (.cells #[.int .u64 0,.string ⟨#[]⟩] 32)=W∧Below w4.heap.size w4 W:=⟨_,rfl,bal (Below.refl _ _) _⟩
   try rw [hw5]
   clear hw5 HR0
   have HB:=hide (HY.out w5 (bnext (bnext HB3.out hb4) hb5)).2.2.2.2
   clear HRt HRn HY HB3 hb4 hb5 c0 c1 c2 c3 c4
   go_wp2
   go_ret
   exact ⟨rfl,HB.out⟩
 ·have HB:=hide (HX.out w2 (bnext hb1 hb2)).2.2.2
  clear c0 c1 c2 c3 c4 hb1 hb2 HX HMd
  go_wp2
  go_ret
  exact ⟨rfl,HB.out⟩
end Go.Proofs.YtipcenbndhnnhaaGreatDoor
