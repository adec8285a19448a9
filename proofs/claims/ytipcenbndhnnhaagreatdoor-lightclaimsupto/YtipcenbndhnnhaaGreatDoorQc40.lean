/- Own work. -/
import Derived.Deep.RegionHeld3
import Derived.Test.YtipcenbndhnnhaaGreatDoorQc39
namespace Go.Proofs.YtipcenbndhnnhaaGreatDoor
open Go.RowKit
open Cv (RdC zl cU)
attribute [local go_sem ↓] Go.wp_at_zero Go.wp_at_succ
set_option maxRecDepth 100000 in
set_option maxHeartbeats 1000000 in
theorem rroot_no (w:World) (kd k:Int) (old size:Nat) (sa:Option Addr) (sb so sc:Nat) (S:List Nat) (hs:RdU w sa sb so S.length S) (hns:S.length≤1048576) (da:Option Addr) (db dO dc:Nat) (D:List ByteArray) (hr:RdS w da db dO D.length D) (hm:D.length≤8796093022208) (xa:Option Addr) (xn xc:Nat) (hno : ¬ (okB kd k old size S D∧xn=S.length)) :
  Calls Tryz.prog 46 #[vP kd k old size (.slice sa S.length sc) (.slice da D.length dc),.slice xa xn xc] w fun e w'=>e = .returned (.tuple #[noR,.int .i64 150])∧Below w.heap.size w w':=by
 obtain ⟨r1,hr1⟩ : ∃ r,decide (okB kd k old size S D)=r:=⟨_,rfl⟩
 have HI:Hid (∀ W,Below w.heap.size w W→Calls Tryz.prog 91 #[vP kd k old size (.slice sa S.length sc) (.slice da D.length dc)] W fun e w'=>e = .returned (.bool r1)∧Below W.heap.size W w'):=fun W hb=>rformed_any W kd k old size sa sb so sc S (hs.next hb) hns da db dO dc D (hr.next hb (Nat.le_refl _)) hm r1 hr1
 have HN:Hid (r1=true → ¬ xn=S.length):=fun h1 h3=>hno ⟨of_decide_eq_true (hr1.trans h1),h3⟩
 obtain ⟨W0,hW0⟩ : ∃ W0,(w.alloc (.cells #[.int .i64 kd,.int .i64 k,.int .u64 (old:Int),.int .u64 (size:Int),.slice sa S.length sc,.slice da D.length dc] 38)).alloc (.cells #[.int .u64 0,.string ⟨#[]⟩] 32)=W0:=⟨_,rfl⟩
 obtain ⟨hb,h6,hRt,hz⟩:=root_start hW0
 obtain ⟨c0,c1,c2,c3,c4,c5⟩:=h6.cells
 have HR:=hide (And.intro hRt hz)
 have H6:=hide h6
 clear hs hr hm hno hr1 h6 hRt hz
 unfold vP at HI
 unfold vP
 cases r1 with
 | false =>
  clear HN
  go_enter Tryz.func46,Tryz.ntmps46
  go_wp2_with (go_at_call 91; with_reducible refine (HI.out _ hb).mono ?_; rintro e w1 ⟨rfl,hb1⟩; have hR:=HR.out.1.below hb1 (by rw [HR.out.2]; omega); have k0:=hR.c0; have k1:=hR.c1; have f0:=hR.f0; have f1:=hR.f1)
  obtain ⟨s0,s1,hch⟩:=rt_put hR 0 ⟨#[]⟩
  refine bodyPost_ret (v := .tuple #[noR,.int .i64 150]) (by simp [results,Tryz.results46,go_sem,s0,s1]) rfl ⟨rfl,?_⟩
  exact (bnext hb hb1).trans (hch.below (by rintro b rfl; omega))
 | true =>
  have hne:=HN.out rfl
  have hz : ¬ (xn:Int)=(S.length:Int):=by omega
  clear HN hne
  go_enter Tryz.func46,Tryz.ntmps46
  go_wp2_with (go_at_call 91; with_reducible refine (HI.out _ hb).mono ?_; rintro e w1 ⟨rfl,hb1⟩; have hR:=HR.out.1.below hb1 (by rw [HR.out.2]; omega); have k0:=hR.c0; have k1:=hR.c1; have f0:=hR.f0; have f1:=hR.f1; obtain ⟨g0,g1,g2,g3,g4,g5⟩:=(H6.out.next hb1).cells)
  obtain ⟨s0,s1,hch⟩:=rt_put hR 0 ⟨#[]⟩
  refine bodyPost_ret (v := .tuple #[noR,.int .i64 150]) (by simp [results,Tryz.results46,go_sem,s0,s1]) rfl ⟨rfl,?_⟩
  exact (bnext hb hb1).trans (hch.below (by rintro b rfl; omega))
set_option maxRecDepth 100000 in
set_option maxHeartbeats 1000000 in
theorem rroot_long (w:World) (k:Int) (size:Nat) (sa:Option Addr) (sb so sc:Nat) (S:List Nat) (X:List ByteArray) (hs:RdU w sa sb so X.length S) (hns:X.length≤1048576) (da:Option Addr) (db dO dc:Nat) (D:List ByteArray) (hr:RdS w da db dO D.length D) (hm:D.length≤8796093022208) (xa:Option Addr) (xb xo xc:Nat) (hx:RdS w xa xb xo X.length X) (hok:okB 2 k 0 size S D) (hlong : ¬ ∀ s∈X,s.size≤1048576) :
  Calls Tryz.prog 46 #[vP 2 k 0 size (.slice sa X.length sc) (.slice da D.length dc),.slice xa X.length xc] w fun e w'=>e = .returned (.tuple #[noR,.int .i64 100])∧Below w.heap.size w w':=by
 have hSl:=hs.hl
 have HI:Hid (∀ W,Below w.heap.size w W→Calls Tryz.prog 91 #[vP 2 k 0 size (.slice sa X.length sc) (.slice da D.length dc)] W fun e w'=>e = .returned (.bool true)∧Below W.heap.size W w'):=fun W hb=>by
  have:=rformed_any W 2 k 0 size sa sb so sc S (by rw [hSl]; exact hs.next hb) (by omega) da db dO dc D (hr.next hb (Nat.le_refl _)) hm true (decide_eq_true hok)
  rw [hSl] at this
  exact this
 have HX:Hid (∀ W,Below w.heap.size w W→RdS W xa xb xo X.length X):=fun W hb=>hx.next hb (Nat.le_refl _)
 obtain ⟨W0,hW0⟩ : ∃ W0,(w.alloc (.cells #[.int .i64 2,.int .i64 k,.int .u64 ((0:Nat):Int),.int .u64 (size:Int),.slice sa X.length sc,.slice da D.length dc] 38)).alloc (.cells #[.int .u64 0,.string ⟨#[]⟩] 32)=W0:=⟨_,rfl⟩
 obtain ⟨hb,h6,hRt,hz⟩:=root_start hW0
 rw [show ((0:Nat):Int)=0 from rfl] at hW0 h6
 obtain ⟨c0,c1,c2,c3,c4,c5⟩:=h6.cells
 have HR:=hide (And.intro hRt hz)
 have H6:=hide h6
 have HN:=hide hlong
 have hn5:(X.length:Int)≤1048576:=by omega
 clear hs hr hm hok h6 hRt hz hx hlong
 unfold vP at HI
 rw [show ((0:Nat):Int)=0 from rfl] at HI
 unfold vP
 rw [show ((0:Nat):Int)=0 from rfl]
 go_enter Tryz.func46,Tryz.ntmps46
 go_upto_region 3 with (go_at_call 91; with_reducible refine (HI.out _ hb).mono ?_; rintro e w2 ⟨rfl,hb2⟩; have hR:=HR.out.1.below hb2 (by rw [HR.out.2]; omega); have k0:=hR.c0; have k1:=hR.c1; have f0:=hR.f0; have f1:=hR.f1; obtain ⟨g0,g1,g2,g3,g4,g5⟩:=(H6.out.next hb2).cells)
 have hbw:=bnext hb hb2
 clear hb hb2 c0 c1 c2 c3 c4 c5 HI hSl
 go_wp2
 go_loopg [6] X.length (fun g i wr => ∃ j:Nat,j≤X.length∧g=X.length - j∧i = .int .i64 (j:Int)∧(∀ t,t<j→(X.getD t ByteArray.empty).size≤1048576)∧w2=wr)
 case atStart =>
  go_light
  exact ⟨0,Nat.zero_le _,rfl,rfl,fun t ht=>absurd ht (Nat.not_lt_zero _),rfl⟩
 case round =>
  obtain ⟨j,hj,rfl,rfl,hal,rfl⟩:=hrel
  by_cases hlt:j<X.length
  ·have hz:(j:Int)<(X.length:Int):=by omega
   have hz0:(0:Int)≤(j:Int):=Int.natCast_nonneg _
   have hrd:=HX.out w2 hbw
   obtain rfl:=hrd.ptr (by omega)
   have cj:=hrd.at hlt
   obtain ⟨d,hd⟩ : ∃ d,X.getD j ByteArray.empty=d:=⟨_,rfl⟩
   rw [hd] at cj
   by_cases hk:d.size≤1048576
   ·have HN2:Hid (∀ t,t<j+1→(X.getD t ByteArray.empty).size≤1048576):=fun t ht=>by
     rcases Nat.lt_or_eq_of_le (Nat.le_of_lt_succ ht) with hx | rfl
     ·exact hal t hx
     ·rw [hd]; exact hk
    have hkz : ¬ (1048576:Int)<(d.size:Int):=by omega
    clear hd hal hrd hk
    go_wp2
    go_roundg (X.length - (j+1))
    case rel =>
     go_light
     exact ⟨j+1,by omega,rfl,by go_num,HN2.out,rfl⟩
    case measure=>go_light; omega
   ·have hkz:(1048576:Int)<(d.size:Int):=by omega
    clear hd hal hrd hk
    go_wp2
    obtain ⟨s0,s1,hch⟩:=rt_put hR 0 ⟨#[]⟩
    refine bodyPost_ret (v := .tuple #[noR,.int .i64 100]) (by simp [results,Tryz.results46,go_sem,s0,s1]) rfl ⟨rfl,?_⟩
    exact hbw.trans (hch.below (by rintro b rfl; omega))
  ·exfalso
   refine HN.out fun s hs => ?_
   obtain ⟨t,ht,rfl⟩:=List.getElem_of_mem hs
   have:=hal t (by omega)
   rwa [List.getD_eq_getElem?_getD,List.getElem?_eq_getElem ht] at this
theorem kn_bounds {c size:Nat} (hc:c≤32) {S:List Nat} {X D:List ByteArray} (he:Cv.errS size S=0) (hX:X.length=S.length) (hD:D.length=(Cv.rst 0 size S).length) (hDs : ∀ d∈D,d.size≤32) : ∀ e∈knS c S X++(Cv.rst 0 size S).zip D,e.1.1≤40∧e.1.2<2^40∧e.2.size≤32:=fun e h=>by
 obtain ⟨h40,_,_,hch⟩:=Cv.errS_ok he
 rcases kn_mem hX hD h with ⟨j,hj,rfl⟩ | ⟨j,hj,rfl⟩
 ·have hm:S.getD j 0∈S:=by rw [List.getD_eq_getElem?_getD,List.getElem?_eq_getElem hj]; exact List.getElem_mem _
  have:=(Cv.chain_mem hch _ hm).2
  exact ⟨Nat.zero_le _,by show S.getD j 0<_; omega,by show (dg c _).size≤_; rw [dg_size hc]; exact hc⟩
 ·have hm:(Cv.rst 0 size S).getD j (0,0)∈Cv.rst 0 size S:=by rw [List.getD_eq_getElem?_getD,List.getElem?_eq_getElem hj]; exact List.getElem_mem _
  have hf:=fit40 (rst_in he _ hm) h40
  exact ⟨hf.2.1,hf.2.2,hDs _ (getD_mem (by omega))⟩
set_option maxRecDepth 100000 in
set_option maxHeartbeats 2000000 in
theorem rroot_okB (w:World) (hT:Tr w) (k:Int) (size:Nat) (sa:Option Addr) (sb so sc:Nat) (S:List Nat) (X:List ByteArray) (hs:RdU w sa sb so X.length S) (hns:X.length≤1048576) (da:Option Addr) (db dO dc:Nat) (D:List ByteArray) (hr:RdS w da db dO D.length D) (hm:D.length≤8796093022208) (xa:Option Addr) (xb xo xc:Nat) (hx:RdS w xa xb xo X.length X) (hok:okB 2 k 0 size S D) (hsz : ∀ s∈X,s.size≤1048576) (r:ByteArray) (hq:dg (clk k) (rootT size (bagL (clk k) (pB (clk k) (Cv.dnL 41 0 size) S X D)))=r) :
  Calls Tryz.prog 46 #[vP 2 k 0 size (.slice sa X.length sc) (.slice da D.length dc),.slice xa X.length xc] w fun e w'=>e = .returned (.tuple #[.agg #[.int .u64 (size:Int),.string r],.int .i64 0])∧Below w.heap.size w w':=by
 have hSl:=hs.hl
 have HI:Hid (∀ W,Below w.heap.size w W→Calls Tryz.prog 91 #[vP 2 k 0 size (.slice sa X.length sc) (.slice da D.length dc)] W fun e w'=>e = .returned (.bool true)∧Below W.heap.size W w'):=fun W hb=>by
  have:=rformed_any W 2 k 0 size sa sb so sc S (by rw [hSl]; exact hs.next hb) (by omega) da db dO dc D (hr.next hb (Nat.le_refl _)) hm true (decide_eq_true hok)
  rw [hSl] at this
  exact this
 have he:=hok.2.1
 obtain ⟨h40,_,_,hch⟩:=Cv.errS_ok he
 have hDl:D.length=(Cv.rst 0 size S).length:=by have:=hok.2.2.1; rwa [Cv.rstS,if_pos he] at this
 have hDs : ∀ d∈D,d.size≤32:=fun d hd=>by have:=hok.2.2.2 d hd; have:=hok.1.2.1; omega
 have hXS:X.length=S.length:=hSl.symm
 obtain ⟨Kn,hKn⟩ : ∃ Kn,knS (clk k) S X++(Cv.rst 0 size S).zip D=Kn:=⟨_,rfl⟩
 have hKl:Kn.length≤100000000:=by
  rw [← hKn,List.length_append,knS_len _ _ _ hXS,zip_len hDl]
  have:=Cv.rst_len size h40 S 0 hch
  omega
 have hKf:Fn Kn:=by rw [← hKn]; exact kn_fn he hXS hDl
 have hKb : ∀ e∈Kn,e.1.1≤40∧e.1.2<2^40∧e.2.size≤32:=by rw [← hKn]; exact kn_bounds (clk_le k) he hXS hDl hDs
 obtain ⟨M,hM⟩ : ∃ M,Cv.dnL 41 0 size=M:=⟨_,rfl⟩
 have hTl:=kn_tl (c:=clk k) he hXS hDl
 rw [hKn,hM] at hTl
 rw [hM] at hq
 obtain ⟨P,hP⟩ : ∃ P,pB (clk k) M S X D=P:=⟨_,rfl⟩
 rw [hP] at hTl hq
 have hPl:P.length=M.length:=by rw [← hP]; exact pB_len _ _ _ _ _
 have hPs : ∀ s∈P,s.size≤32:=fun s hs=>by
  obtain ⟨j,hj,rfl⟩:=List.getElem_of_mem hs
  have:=(hTl j (by omega)).size (clk_le k) (fun e he=>(hKb e he).2.2)
  rwa [List.getD_eq_getElem?_getD,List.getElem?_eq_getElem hj] at this
 have hMl:M.length≤41:=by rw [← hM]; exact Cv.dn_len 41 0 size
 have HKn:Hid (∀ W,Below w.heap.size w W→Calls Tryz.prog 93 #[vP 2 k 0 size (.slice sa X.length sc) (.slice da D.length dc),.slice xa X.length xc] W fun e w' => ∃ ao g cap,e = .returned (.slice ao Kn.length cap)∧RdH w' ao g Kn.length Kn∧Below W.heap.size W w'):=fun W hb=>rknown_any W (hT.next hb) 2 k 0 size sa sb so sc S X (hs.next hb) hns da db dO dc D (hr.next hb (Nat.le_refl _)) xa xb xo xc (hx.next hb (Nat.le_refl _)) hsz he hDl Kn hKn
 have HPk:Hid (∀ W ao g cap,Below w.heap.size w W→RdH W ao g Kn.length Kn→Calls Tryz.prog 92 #[.int .i64 k,.int .u64 (size:Int),.slice ao Kn.length cap] W fun e w' => ∃ pa pb pc,e = .returned (.slice pa P.length pc)∧RdS w' pa pb 0 P.length P∧Below W.heap.size W w'):=fun W ao g cap hb hR=>rpk_any W (hT.next hb) k size h40 ao g cap Kn hR hKl hKf hKb P M hM hPl hTl
 have HRo:Hid (∀ W pa pb pc,Below w.heap.size w W→RdS W pa pb 0 P.length P→Calls Tryz.prog 24 #[.int .i64 k,.int .u64 (size:Int),.slice pa P.length pc] W fun e w'=>e = .returned (.string r)∧Below W.heap.size W w'):=fun W pa pb pc hb hR=>refroot_any W (hT.next hb) k size (by omega) pa pb 0 P.length pc P hR (fun s hs=>by have:=hPs s hs; omega) (by omega) r hq
 have HSz:=hide hsz
 have HX:Hid (∀ W,Below w.heap.size w W→RdS W xa xb xo X.length X):=fun W hb=>hx.next hb (Nat.le_refl _)
 obtain ⟨W0,hW0⟩ : ∃ W0,(w.alloc (.cells #[.int .i64 2,.int .i64 k,.int .u64 ((0:Nat):Int),.int .u64 (size:Int),.slice sa X.length sc,.slice da D.length dc] 38)).alloc (.cells #[.int .u64 0,.string ⟨#[]⟩] 32)=W0:=⟨_,rfl⟩
 obtain ⟨hb,h6,hRt,hz⟩:=root_start hW0
 rw [show ((0:Nat):Int)=0 from rfl] at hW0 h6
 obtain ⟨c0,c1,c2,c3,c4,c5⟩:=h6.cells
 have HR:=hide (And.intro hRt hz)
 have H6:=hide h6
 have hn5:(X.length:Int)≤1048576:=by omega
 clear hs hr hm hok h6 hRt hz hx hsz he h40 hch hDl hDs hXS hKn hKl hKf hKb hM hTl hq hP hPl hPs hMl hT
 unfold vP at HI HKn
 rw [show ((0:Nat):Int)=0 from rfl] at HI HKn
 unfold vP
 rw [show ((0:Nat):Int)=0 from rfl]
 go_enter Tryz.func46,Tryz.ntmps46
 go_upto_region 3 with (go_at_call 91; with_reducible refine (HI.out _ hb).mono ?_; rintro e w2 ⟨rfl,hb2⟩; have hR:=HR.out.1.below hb2 (by rw [HR.out.2]; omega); have k0:=hR.c0; have k1:=hR.c1; have f0:=hR.f0; have f1:=hR.f1; have h62:=H6.out.next hb2; obtain ⟨g0,g1,g2,g3,g4,g5⟩:=h62.cells)
 have hbw:=bnext hb hb2
 clear hb hb2 c0 c1 c2 c3 c4 c5 HI hSl
 go_wp2
 go_loopg [6] X.length (fun g i wr => ∃ j:Nat,j≤X.length∧g=X.length - j∧i = .int .i64 (j:Int)∧w2=wr)
 case atStart =>
  go_light
  exact ⟨0,Nat.zero_le _,rfl,rfl,rfl⟩
 case round =>
  obtain ⟨j,hj,rfl,rfl,rfl⟩:=hrel
  by_cases hlt:j<X.length
  ·have hz:(j:Int)<(X.length:Int):=by omega
   have hz0:(0:Int)≤(j:Int):=Int.natCast_nonneg _
   have hrd:=HX.out w2 hbw
   obtain rfl:=hrd.ptr (by omega)
   have cj:=hrd.at hlt
   have hk:=HSz.out _ (getD_mem hlt)
   obtain ⟨d,hd⟩ : ∃ d,X.getD j ByteArray.empty=d:=⟨_,rfl⟩
   rw [hd] at cj hk
   have hkz : ¬ (1048576:Int)<(d.size:Int):=by omega
   clear hd hrd hk
   go_wp2
   go_roundg (X.length - (j+1))
   case rel =>
    go_light
    exact ⟨j+1,by omega,rfl,by go_num,rfl⟩
   case measure=>go_light; omega
  ·obtain rfl:j=X.length:=by omega
   have hz : ¬ ((X.length:Int)<(X.length:Int)):=by omega
   have HS:Hid (∀ W,Below w2.heap.size w2 W→Six W w.heap.size (.int .i64 2) (.int .i64 k) (.int .u64 0) (.int .u64 (size:Int)) (.slice sa X.length sc) (.slice da D.length dc)):=fun W hW=>h62.next hW
   have HRt:Hid (∀ W,Below w2.heap.size w2 W→Rt W (w.heap.size+1) 0 ⟨#[]⟩):=fun W hW=>hR.below hW (World.block_lt_of_cell? w2 _ hR.c0)
   have HBw:=hide hbw
   have hne : ¬ w.heap.size=w.heap.size+1:=by omega
   have hdr:=(Below.refl w2.heap.size w2).drew
   clear hlt hj hR h62 hbw HX HSz k0 k1 f0 f1
   go_upto_region 8 with (fail)
   go_region_held3 (fun Z=>Z.cell? ⟨w.heap.size,0,none⟩=some (.int .i64 2)∧Z.cell? ⟨w.heap.size,1,none⟩=some (.int .i64 k)∧Z.cell? ⟨w.heap.size,2,none⟩=some (.int .u64 0)∧Z.cell? ⟨w.heap.size,3,none⟩=some (.int .u64 (size:Int))∧Z.cell? ⟨w.heap.size,4,none⟩=some (.slice sa X.length sc)∧Z.cell? ⟨w.heap.size,5,none⟩=some (.slice da D.length dc))
    (first | assumption | (exact (HS.out _ hdr).cells) | (exact (HS.out _ hr3).cells) | (exact (HS.out _ hr4).cells) | (exact (HS.out _ hr5).cells) | (exact ((HS.out _ hr5).same ((put2_ch w5 (w.heap.size+1) (.int .u64 (size:Int)) (.string r)).block _ hne)).cells)) (first
    | (go_at_call 93; with_reducible refine (HKn.out _ (bnext HBw.out hdr)).mono ?_; rintro e w3 ⟨ka,kg,kc,rfl,hK3,hb3⟩; have hr3:=bnext hdr hb3)
    | (go_at_call 92; with_reducible refine (HPk.out _ ka kg kc (bnext HBw.out hr3) hK3).mono ?_; rintro e w4 ⟨pa,pb,pc,rfl,hP4,hb4⟩; have hr4:=bnext hr3 hb4)
    | (go_at_call 24; with_reducible refine (HRo.out _ pa pb pc (bnext HBw.out hr4) hP4).mono ?_; rintro e w5 ⟨rfl,hb5⟩; have hr5:=bnext hr4 hb5; have hR5:=HRt.out _ hr5; have k0:=hR5.c0; have k1:=hR5.c1; have f0:=hR5.f0; have f1:=hR5.f1))
   all_goals
    obtain ⟨s0,s1,hch⟩:=rt_put hR5 (size:Int) r
    go_wp2
    refine bodyPost_ret (v := .tuple #[.agg #[.int .u64 (size:Int),.string r],.int .i64 0]) (by simp [results,Tryz.results46,go_sem,s0,s1]) rfl ⟨rfl,?_⟩
    exact (bnext HBw.out hr5).trans (hch.below (by rintro b rfl; omega))
theorem rboth (kd k:Int) (old size:Nat) (S:List Nat) (hS:S.length≤1048576) (D X:List ByteArray) (hD:D.length≤8796093022208) : ∃ (n:Nat) (rr:ByteArray) (er:Nat),
  (∀ W sa sb so sc da db dO dc xa xb xo xc,Tb W→RdU W sa sb so S.length S→S.length≤sc→(sa=none→sc=0)→RdS W da db dO D.length D→D.length≤dc→(da=none→dc=0)→RdS W xa xb xo X.length X→X.length≤xc→(xa=none→xc=0)→Calls Tryz.prog 73 #[vP kd k old size (.slice sa S.length sc) (.slice da D.length dc),.slice xa X.length xc] W fun e w'=>e = .returned (.tuple #[.agg #[.int .u64 (n:Int),.string rr],.int .i64 (er:Int)])∧Below W.heap.size W w') ∧
  (∀ W sa sb so sc da db dO dc xa xb xo xc,Tr W→RdU W sa sb so S.length S→RdS W da db dO D.length D→RdS W xa xb xo X.length X→Calls Tryz.prog 46 #[vP kd k old size (.slice sa S.length sc) (.slice da D.length dc),.slice xa X.length xc] W fun e w'=>e = .returned (.tuple #[.agg #[.int .u64 (n:Int),.string rr],.int .i64 (er:Int)])∧Below W.heap.size W w'):=by
 by_cases h1:okB kd k old size S D∧X.length=S.length
 ·obtain ⟨hok,hXS⟩:=h1
  obtain rfl:kd=2:=hok.1.1
  obtain rfl:old=0:=hok.1.2.2
  by_cases h2 : ∀ s∈X,s.size≤1048576
  ·refine ⟨size,dg (clk k) (rootT size (bagL (clk k) (pB (clk k) (Cv.dnL 41 0 size) S X D))),0,fun W sa sb so sc da db dO dc xa xb xo xc hT hU u1 u2 hR r1 r2 hx x1 x2 => ?_,fun W sa sb so sc da db dO dc xa xb xo xc hT hU hR hx => ?_⟩
   ·have:=broot_ok W hT k size sa sb so sc S X (by rw [hXS]; exact hU) (by omega) (by omega) u2 da db dO dc D hR hD r1 r2 xa xb xo xc hx x1 x2 hok h2 _ rfl
    rw [hXS] at this
    rw [hXS]
    exact this
   ·have:=rroot_okB W hT k size sa sb so sc S X (by rw [hXS]; exact hU) (by omega) da db dO dc D hR hD xa xb xo xc hx hok h2 _ rfl
    rw [hXS] at this
    rw [hXS]
    exact this
  ·refine ⟨0,⟨#[]⟩,100,fun W sa sb so sc da db dO dc xa xb xo xc hT hU u1 u2 hR r1 r2 hx x1 x2 => ?_,fun W sa sb so sc da db dO dc xa xb xo xc hT hU hR hx => ?_⟩
   ·have:=broot_long W k size sa sb so sc S X (by rw [hXS]; exact hU) (by omega) da db dO dc D hR hD xa xb xo xc hx hok h2
    rw [hXS] at this
    rw [hXS]
    exact this
   ·have:=rroot_long W k size sa sb so sc S X (by rw [hXS]; exact hU) (by omega) da db dO dc D hR hD xa xb xo xc hx hok h2
    rw [hXS] at this
    rw [hXS]
    exact this
 ·exact ⟨0,⟨#[]⟩,150,fun W sa sb so sc da db dO dc xa xb xo xc hT hU u1 u2 hR r1 r2 hx x1 x2=>broot_no W kd k old size sa sb so S.length sc S hU (by omega) da db dO D.length dc D hR hD xa X.length xc h1,
   fun W sa sb so sc da db dO dc xa xb xo xc hT hU hR hx=>rroot_no W kd k old size sa sb so sc S hU (by omega) da db dO dc D hR hD xa X.length xc h1⟩
end Go.Proofs.YtipcenbndhnnhaaGreatDoor
