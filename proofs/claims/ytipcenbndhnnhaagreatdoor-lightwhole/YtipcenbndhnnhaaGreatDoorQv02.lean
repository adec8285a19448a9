/- Own work. -/
import Derived.Test.YtipcenbndhnnhaaGreatDoorQd44
import Derived.Test.YtipcenbndhnnhaaGreatDoorQd46
import Derived.Deep.RegionWith
import Derived.Test.YtipcenbndhnnhaaGreatDoorProg
import Derived.Below
import Derived.WalkKit
import Derived.WalkSpells
import Derived.KernelRfl
import Derived.Deep.RegionHeld3
import Derived.BigQuiet
import Derived.BigRegion
import Derived.Deep.Onto
import Derived.ArgAppend
import Derived.Laws.AppendOwnNone
import Derived.Laws.IdiomStrings
import Derived.Handy
import Derived.Outline
import Derived.Deep.LoopGhost
import Derived.Deep.MidRow
import Derived.Deep.DrawnRows
import Derived.Deep.Light
import Derived.Deep.Cut
import Derived.Deep.CutRange
import Derived.Lib.SliceRun
import Derived.Lib.LazyBuf
import Derived.Deep.RegionLaw
import Derived.Lib.BufferOwn
import Derived.Lib.BufferMore
import Derived.Laws.Bits64b
import Derived.Test.YtipcenbndhnnhaaGreatDoorRows
import Derived.Test.YtipcenbndhnnhaaGreatDoorQv01
namespace Go.Proofs.YtipcenbndhnnhaaGreatDoor
open Go.RowKit
open Cv (RdC zl cU)
attribute [local go_sem ↓] Go.wp_at_zero Go.wp_at_succ
theorem cat_peaks (w:World) (ax ay:Option Addr) (db off na nb cx cy:Nat) (E:List ByteArray) (pk:ByteArray) (zk:pk.size≤9223372036854775807) (hr:RdS w ax db off E.length E) (hn:ax=none→cx=0) (hl:E.length=na+nb) (hs:E.length≤1000) (hcx:E.length≤cx) (hcy:cx - na=cy) (hay:(if cx=na then ax else Option.map (fun x=>x.add na) ax)=ay) :
  Calls Tryz.prog 118 #[.slice (some ⟨w.heap.size+1,0,none⟩) 3 3] ((w.alloc (.cells #[.string pk] 9)).alloc (.cells #[.slice ax na cx,.slice (some ⟨w.heap.size,0,none⟩) 1 1,.slice ay nb cy] 22)).drew fun e w' => ∃ ao b cap,e = .returned (.slice ao (na+1+nb) cap)∧RdS w' ao b 0 (na+1+nb) (E.take na++pk::E.drop na)∧Below w.heap.size w w':=by
 subst hcy
 obtain ⟨o1,ho1⟩ : ∃ o1,Obj.cells #[.string pk] 9 (0,0)=o1:=⟨_,rfl⟩
 obtain ⟨o2,ho2⟩ : ∃ o2,Obj.cells #[.slice ax na cx,.slice (some ⟨w.heap.size,0,none⟩) 1 1,.slice ay nb (cx - na)] 22 (0,0)=o2:=⟨_,rfl⟩
 have hb1:=bal (Below.refl w.heap.size w) o1
 have hb2:=(bal hb1 o2).drew
 have hx:((w.alloc o1).alloc o2).drew.heap[w.heap.size+1]? = some (.cells #[.slice ax na cx,.slice (some ⟨w.heap.size,0,none⟩) 1 1,.slice ay nb (cx - na)] 22 (0,0)):=by
  have:=heap_alloc_new (w.alloc o1) o2
  rw [World.size_alloc] at this
  rw [ho2]
  exact this
 have hr2:=hr.next hb2 (Nat.le_refl _)
 obtain ⟨rd,rn⟩:=rds_drop hr2 hcx (by omega) hn hay
 have rt:=rds_take hr2 (H:=na) (by omega)
 have r1:RdS ((w.alloc o1).alloc o2).drew (some ⟨w.heap.size,0,none⟩) w.heap.size 0 1 [pk]:=by
  have h0:RdS (w.alloc o1) (some ⟨w.heap.size,0,none⟩) w.heap.size 0 1 [pk]:=by rw [← ho1]; exact rds_one w pk zk
  exact h0.next ((bal (Below.refl _ _) o2).drew) (Nat.le_refl _)
 have lt:(E.take na).length=na:=by rw [List.length_take]; omega
 have ld:(E.drop na).length=nb:=by rw [List.length_drop]; omega
 have hc:CatS ((w.alloc o1).alloc o2).drew (w.heap.size+1) [.slice ax na cx,.slice (some ⟨w.heap.size,0,none⟩) 1 1,.slice ay nb (cx - na)] [E.take na,[pk],E.drop na]:=by
  refine cat3_S ?_ ?_ ?_ ?_ (rds_rdc r1 (fun e=>by cases e)) ?_
  ·rw [cell_of_row _ _ 0 _ _ (0,0) hx]; rfl
  ·rw [cell_of_row _ _ 1 _ _ (0,0) hx]; rfl
  ·rw [cell_of_row _ _ 2 _ _ (0,0) hx]; rfl
  ·rw [lt] at rt ⊢; exact rds_rdc rt hn
  ·rw [ld] at rd ⊢; exact rds_rdc rd rn
 have hfl:([E.take na,[pk],E.drop na]:List (List ByteArray)).flatten=E.take na++pk::E.drop na:=by simp
 have hll:(E.take na++pk::E.drop na).length=na+1+nb:=by rw [List.length_append,List.length_cons,lt,ld]; omega
 rw [ho1,ho2]
 refine (show Calls Tryz.prog 118 #[.slice (some ⟨w.heap.size+1,0,none⟩) 3 3] ((w.alloc o1).alloc o2).drew _ from concat_S _ _ 3 _ _ hc (by simp) (by rw [hfl,hll]; omega) _ hfl).mono fun e w' ⟨v,e1,e2,e3⟩ => ?_
 obtain ⟨ao,b,cap,rfl,hr',_⟩:=owns_rds (show OwnS w' _ v _ from e2) (fun s hs=>by
  rcases List.mem_append.1 hs with hs | hs
  ·exact hr.sz s (List.mem_of_mem_take hs)
  ·rcases List.mem_cons.1 hs with rfl | hs
   ·exact zk
   ·exact hr.sz s (List.mem_of_mem_drop hs))
 rw [hll] at e1 hr'
 exact ⟨ao,b,cap,e1,hr',bnext hb2 e3⟩
structure RA (w:World) (k:Int) (size:Nat) (b o:Nat) (i H:Nat) (A B:List (Nat×Nat)):Prop where
 k1:1≤k∧k≤32
 n:size≤2^40
 il:i<size
 wy:Wy size i A H B
 ci:w.cell? ⟨b,o,none⟩=some (.int .u64 (i:Int))
set_option maxRecDepth 100000 in
set_option maxHeartbeats 1000000 in
theorem proot_okT (w:World) (k:Int) (size:Nat) (b o sc:Nat) (i H:Nat) (A B:List (Nat×Nat)) (ha:RA w k size b o i H A B) (da:Option Addr) (db dO dc:Nat) (D:List ByteArray) (hr:RdS w da db dO D.length D) (hm:D.length≤9223372036854775807) (x:ByteArray) (hf:fil k (H+A.length+B.length) D) (hxl:x.size≤1048576) (ht:Tb w) (hcd:D.length≤dc) (hc63:dc≤9223372036854775807) (hnd:da=none→dc=0) (r:ByteArray) (hq:rtP (clk k) size i A.length H D x=r) :
  Calls Tryz.prog 72 #[.agg #[.int .i64 1,.int .i64 k,.int .u64 0,.int .u64 (size:Int),.slice (some ⟨b,o,none⟩) 1 sc,.slice da D.length dc],.string x] w fun e w'=>e = .returned (.tuple #[.agg #[.int .u64 (size:Int),.string r],.int .i64 0])∧Below w.heap.size w w':=by
 have HI:Hid (∀ W,Below w.heap.size w W→Calls Tryz.prog 115 #[.agg #[.int .i64 1,.int .i64 k,.int .u64 0,.int .u64 (size:Int),.slice (some ⟨b,o,none⟩) 1 sc,.slice da D.length dc]] W fun e w'=>e = .returned (.bool true)∧Below W.heap.size W w'):=fun W hb =>
  ispath_core W 1 k 0 size (some ⟨b,o,none⟩) 1 sc da D.length dc i (fun h=>⟨b,o,rfl,(hb.cell (p:=⟨b,o,none⟩) (World.block_lt_of_cell? w _ ha.ci)).trans ha.ci⟩) true (decide_eq_true ⟨rfl,ha.k1,ha.n,rfl,rfl,ha.il⟩)
 have HCi:Hid (∀ W,Below w.heap.size w W→W.cell? ⟨b,o,none⟩=some (.int .u64 (i:Int))):=fun W hb=>(hb.cell (p:=⟨b,o,none⟩) (World.block_lt_of_cell? w _ ha.ci)).trans ha.ci
 have hln:=ha.wy.len
 have hH:=ha.wy.hH
 have HW:Hid (∀ W,Calls Tryz.prog 40 #[.int .u64 (size:Int),.int .u64 (i:Int)] W fun e w' => ∃ a0 c0 a1 c1 a2 c2,e = .returned (.agg #[.slice a0 H c0,.slice a1 A.length c1,.slice a2 B.length c2])∧Below W.heap.size W w'):=fun W =>
  (way_any W size i H A B ha.wy ha.n ha.il).mono fun e w' ⟨vb,va,vc,e1,r0,r1,r2,hb⟩=>by
   obtain ⟨a0,c0,rfl⟩:=rdc_slice r0
   obtain ⟨a1,c1,rfl⟩:=rdc_slice r1
   obtain ⟨a2,c2,rfl⟩:=rdc_slice r2
   exact ⟨a0,c0,a1,c1,a2,c2,e1,hb⟩
 have HF:Hid (∀ W a0 c0 a1 c1 a2 c2,Below w.heap.size w W→Calls Tryz.prog 116 #[.agg #[.slice a0 H c0,.slice a1 A.length c1,.slice a2 B.length c2],.agg #[.int .i64 1,.int .i64 k,.int .u64 0,.int .u64 (size:Int),.slice (some ⟨b,o,none⟩) 1 sc,.slice da D.length dc]] W fun e w'=>e = .returned (.bool true)∧Below W.heap.size W w'):=fun W a0 c0 a1 c1 a2 c2 hb =>
  filled_core W 1 k 0 size (some ⟨b,o,none⟩) 1 sc da db dO dc D (hr.next hb (Nat.le_refl _)) hm a0 a1 a2 H A.length B.length c0 c1 c2 (by omega) (by omega) (by omega) true (decide_eq_true hf)
 have HX:Hid (x.size≤1048576∧fil k (H+A.length+B.length) D∧D.length≤dc∧(da=none→dc=0)∧i<2^40∧(1≤k∧k≤32)∧H≤40∧A.length+B.length≤40∧dc≤9223372036854775807):=⟨hxl,hf,hcd,hnd,by have:=ha.n; have:=ha.il; omega,ha.k1,ha.wy.hH,ha.wy.len,hc63⟩
 have HQ:=hide hq
 have HT:Hid (∀ W,Below w.heap.size w W→Tb W):=fun W hb=>ht.next hb
 have HD:Hid (∀ W,Below w.heap.size w W→RdS W da db dO D.length D):=fun W hb=>hr.next hb (Nat.le_refl _)
 have hxz:decide ((1048576:Int)<(x.size:Int))=false:=decide_eq_false (by omega)
 have hcz : ¬ ((dc:Int)<(H:Int)):=by have:=hf.1; omega
 have hnz:(H:Int)≤(D.length:Int):=by have:=hf.1; omega
 clear hf hxl ht hcd hc63 hnd hq ha hr hm hln hH
 go_enter Tryz.func72,Tryz.ntmps72
 go_upto_region 1 with (fail)
 obtain ⟨W0,hW0⟩ : ∃ W0,(w.alloc (.cells #[.int .i64 1,.int .i64 k,.int .u64 ((0:Nat):Int),.int .u64 (size:Int),.slice (some ⟨b,o,none⟩) 1 sc,.slice da D.length dc] 38)).alloc (.cells #[.int .u64 0,.string ⟨#[]⟩] 32)=W0:=⟨_,rfl⟩
 obtain ⟨hb,h6,hRt,hz⟩:=root_start hW0
 rw [show ((0:Nat):Int)=0 from rfl] at hW0 h6
 rw [hW0]
 obtain ⟨c0,c1,c2,c3,c4,c5⟩:=h6.cells
 have HR:=hide (And.intro hRt hz)
 have H6:=hide h6
 clear hW0 h6 hRt hz
 go_upto_region 9 with (first
  | (go_at_call 115; with_reducible refine (HI.out _ hb).mono ?_; rintro e w1 ⟨rfl,hb1⟩; obtain ⟨d0,d1,d2,d3,d4,d5⟩:=(H6.out.next hb1).cells; have ci:=HCi.out _ (bnext hb hb1))
  | (go_at_call 40; with_reducible refine (HW.out _).mono ?_; rintro e w2 ⟨a0,n0,a1,n1,a2,n2,rfl,hb2⟩; obtain ⟨g0,g1,g2,g3,g4,g5⟩:=(H6.out.next (bal (bnext hb1 hb2) (.cells #[.slice a0 H n0,.slice a1 A.length n1,.slice a2 B.length n2] 83))).cells)
  | (go_at_call 116; with_reducible refine (HF.out _ _ _ _ _ _ _ (bal (bnext (bnext hb hb1) hb2) _)).mono ?_; rintro e w3 ⟨rfl,hb3⟩; have hR:=HR.out.1.below (bnext (bal (bnext hb1 hb2) _) hb3) (by rw [HR.out.2]; omega); have k0:=hR.c0; have k1:=hR.c1; have f0:=hR.f0; have f1:=hR.f1))
 have hwB:=heap_alloc_new w2 (.cells #[.slice a0 H n0,.slice a1 A.length n1,.slice a2 B.length n2] 83)
 have hw3:=(hb3.block w2.heap.size (by simp)).trans hwB
 have q0:w3.cell? ⟨w2.heap.size,0,none⟩=some (.slice a0 H n0):=by rw [cell_of_row w3 _ 0 _ _ (0,0) hw3]; rfl
 have q1:w3.cell? ⟨w2.heap.size,1,none⟩=some (.slice a1 A.length n1):=by rw [cell_of_row w3 _ 1 _ _ (0,0) hw3]; rfl
 have h63:=H6.out.next (bnext (bal (bnext hb1 hb2) _) hb3)
 have hbw3:=bnext (bal (bnext (bnext hb hb1) hb2) (.cells #[.slice a0 H n0,.slice a1 A.length n1,.slice a2 B.length n2] 83)) hb3
 obtain ⟨e0,e1,e2,e3,e4,e5⟩:=h63.cells
 have HS:Hid (Six w3 w.heap.size (.int .i64 1) (.int .i64 k) (.int .u64 0) (.int .u64 (size:Int)) (.slice (some ⟨b,o,none⟩) 1 sc) (.slice da D.length dc)∧Rt w3 (w.heap.size+1) 0 ⟨#[]⟩∧w3.heap[w2.heap.size]? = some (.cells #[.slice a0 H n0,.slice a1 A.length n1,.slice a2 B.length n2] 83 (0,0))∧Below w.heap.size w w3):=⟨h63,hR,hw3,hbw3⟩
 generalize w2.heap.size=y at *
 clear hwB hw3 h63 hbw3 HR H6 HW HF HI HCi hb hb1 hb2 hb3 c0 c1 c2 c3 c4 c5 d0 d1 d2 d3 d4 d5 g0 g1 g2 g3 g4 g5 ci k0 k1 f0 f1 hR
 go_quiet (fail)
 go_upto_region 10 with (fail)
 obtain ⟨W4,hW4⟩ : ∃ W4,w3.drewN nq=W4:=⟨_,rfl⟩
 have HS4:Hid (Six W4 w.heap.size (.int .i64 1) (.int .i64 k) (.int .u64 0) (.int .u64 (size:Int)) (.slice (some ⟨b,o,none⟩) 1 sc) (.slice da D.length dc)∧Rt W4 (w.heap.size+1) 0 ⟨#[]⟩∧W4.heap[y]? = some (.cells #[.slice a0 H n0,.slice a1 A.length n1,.slice a2 B.length n2] 83 (0,0))∧Below w.heap.size w W4):=by
  rw [← hW4]
  exact ⟨HS.out.1,⟨HS.out.2.1.c0,HS.out.2.1.c1,HS.out.2.1.f0,HS.out.2.1.f1⟩,HS.out.2.2.1,below_drewN HS.out.2.2.2 nq⟩
 obtain ⟨ax,hax⟩ : ∃ ax,(if dc=H then da else Option.map (fun x=>x.add H) da)=ax:=⟨_,rfl⟩
 have HA:Hid (∀ W,Below w.heap.size w W→RdS W ax db (dO+H) (D.drop H).length (D.drop H)∧(ax=none→dc - H=0)):=fun W hb=>rds_drop (HD.out W hb) HX.out.2.2.1 (by omega) HX.out.2.2.2.1 hax
 rw [hW4,hax]
 have hEl:(D.drop H).length=A.length+B.length:=by rw [List.length_drop,HX.out.2.1.1]; omega
 have hck:(k:Int)=(clk k:Int):=by have:=HX.out.2.2.2.2.2.1; unfold clk; rw [if_neg (by omega),if_neg (by omega)]; omega
 have hsD : ∀ s∈D,s.size=clk k:=fun s hs=>by have:=HX.out.2.1.2 s hs; omega
 obtain ⟨lf,hlf⟩ : ∃ lf,dg (clk k) (leafT x)=lf:=⟨_,rfl⟩
 obtain ⟨pk,hpk⟩ : ∃ pk,rs (clk k) i lf (D.take H)=pk:=⟨_,rfl⟩
 have zlf:lf.size=clk k:=by rw [← hlf]; exact dg_size (clk_le k) _
 have HLf:Hid (∀ W,Below w.heap.size w W→Calls Tryz.prog 49 #[.int .i64 k,.string x] W fun e w'=>e = .returned (.string lf)∧Below W.heap.size W w'):=fun W hb=>leaf_any W (HT.out W hb) k x (by have:=HX.out.1; omega) lf hlf
 have HRs:Hid (∀ W,Below w.heap.size w W→Calls Tryz.prog 117 #[.int .i64 k,.int .u64 (i:Int),.string lf,.slice da H dc] W fun e w'=>e = .returned (.string pk)∧Below W.heap.size W w'):=fun W hb=>by
  have:=raised_any W (HT.out W hb) k i HX.out.2.2.2.2.1 lf zlf da db dO dc (D.take H) (rds_take (HD.out W hb) (by omega)) (by rw [List.length_take]; have:=HX.out.2.2.2.2.2.2.1; omega) (fun s hs=>hsD s (List.mem_of_mem_take hs)) pk hpk
  rw [List.length_take,Nat.min_eq_left (by omega)] at this
  exact this
 obtain ⟨k0,k1,k2,k3,k4,k5⟩:=HS4.out.1.cells
 have hb4:=HS4.out.2.2.2
 have HE:=hide (And.intro hEl (And.intro hsD (And.intro hlf (And.intro hpk (And.intro hck zlf)))))
 have HAX:=hide hax
 clear hW4 HS e0 e1 e2 e3 e4 e5 q0 q1 hck hsD hlf hpk zlf hEl hax
 refine wp_region_planI (by kernel_rfl) [46,47,48,49,50,51,52,53,54,10] [] [.pointer (some ⟨w.heap.size,1,none⟩),.int .i64 k,.int .u64 (i:Int),.pointer (some ⟨w.heap.size,1,none⟩),.int .i64 k,.string x,.string lf,.slice da H dc,.string pk,.string pk] (by kernel_rfl) rfl (fun j hj=>by cases hj) (fun _ W=>Below W4.heap.size W4 W) (fun W _ hb=>hb) ?step ?fin
 case step =>
  refine ⟨?_,?_,?_,?_,?_,?_,?_,?_,?_,?_,trivial⟩
  ·intro L Ac Wc K hI hj hcl hsm dep hK
   have t2:Ac.tmps.getD 2 undef = .pointer (some ⟨w.heap.size,0,none⟩):=hsm 2 rfl
   show Oper.wp _ _ Ac Wc K _
   go_simp
   exact hK _ _ (.inr rfl) hI
  ·intro L Ac Wc K hI hj hcl hsm dep hK
   have t46:Ac.tmps.getD 46 undef = .pointer (some ⟨w.heap.size,1,none⟩):=dep 0 rfl
   show Oper.wp _ _ Ac Wc K _
   obtain ⟨g0,g1,g2,g3,g4,g5⟩:=(HS4.out.1.next hI).cells
   go_simp
   exact hK _ _ (.inr rfl) hI
  ·intro L Ac Wc K hI hj hcl hsm dep hK
   have t6:Ac.tmps.getD 6 undef = .int .u64 (i:Int):=hsm 6 rfl
   show Oper.wp _ _ Ac Wc K _
   go_simp
   exact hK _ _ (.inr rfl) hI
  ·intro L Ac Wc K hI hj hcl hsm dep hK
   have t2:Ac.tmps.getD 2 undef = .pointer (some ⟨w.heap.size,0,none⟩):=hsm 2 rfl
   show Oper.wp _ _ Ac Wc K _
   go_simp
   exact hK _ _ (.inr rfl) hI
  ·intro L Ac Wc K hI hj hcl hsm dep hK
   have t49:Ac.tmps.getD 49 undef = .pointer (some ⟨w.heap.size,1,none⟩):=dep 3 rfl
   show Oper.wp _ _ Ac Wc K _
   obtain ⟨g0,g1,g2,g3,g4,g5⟩:=(HS4.out.1.next hI).cells
   go_simp
   exact hK _ _ (.inr rfl) hI
  ·intro L Ac Wc K hI hj hcl hsm dep hK
   have t1:Ac.tmps.getD 1 undef = .string x:=hsm 1 rfl
   show Oper.wp _ _ Ac Wc K _
   go_simp
   exact hK _ _ (.inr rfl) hI
  ·intro L Ac Wc K hI hj hcl hsm dep hK
   have t50:Ac.tmps.getD 50 undef = .int .i64 k:=dep 4 rfl
   have t51:Ac.tmps.getD 51 undef = .string x:=dep 5 rfl
   show Oper.wp _ _ Ac Wc K _
   go_simp
   refine (HLf.out Wc (bnext hb4 hI)).mono ?_
   rintro e w' ⟨rfl,hb⟩
   exact hK _ _ (.inr rfl) (bnext hI hb)
  ·intro L Ac Wc K hI hj hcl hsm dep hK
   have t8:Ac.tmps.getD 8 undef = .slice da H dc:=hsm 8 rfl
   show Oper.wp _ _ Ac Wc K _
   go_simp
   exact hK _ _ (.inr rfl) hI
  ·intro L Ac Wc K hI hj hcl hsm dep hK
   have t47:Ac.tmps.getD 47 undef = .int .i64 k:=dep 1 rfl
   have t48:Ac.tmps.getD 48 undef = .int .u64 (i:Int):=dep 2 rfl
   have t52:Ac.tmps.getD 52 undef = .string lf:=dep 6 rfl
   have t53:Ac.tmps.getD 53 undef = .slice da H dc:=dep 7 rfl
   show Oper.wp _ _ Ac Wc K _
   go_simp
   refine (HRs.out Wc (bnext hb4 hI)).mono ?_
   rintro e w' ⟨rfl,hb⟩
   exact hK _ _ (.inr rfl) (bnext hI hb)
  ·intro L Ac Wc K hI hj hcl hsm dep hK
   have t54:Ac.tmps.getD 54 undef = .string pk:=dep 8 rfl
   show Oper.wp _ _ Ac Wc K _
   go_simp
   exact hK _ _ (.inr rfl) hI
 case fin =>
  intro L w6 hall hB
  have hb6':=bnext hb4 hB
  have h6d:=HS4.out.1.next hB
  have hRt:=HS4.out.2.1.below hB (World.block_lt_of_cell? W4 _ HS4.out.2.1.c0)
  have hwy:w6.heap[y]? = some (.cells #[.slice a0 H n0,.slice a1 A.length n1,.slice a2 B.length n2] 83 (0,0)):=(hB.block y (Array.getElem?_eq_some_iff.1 HS4.out.2.2.1).1).trans HS4.out.2.2.1
  have u1:w6.cell? ⟨y,1,none⟩=some (.slice a1 A.length n1):=by rw [cell_of_row w6 _ 1 _ _ (0,0) hwy]; rfl
  have HS6:Hid (Six w6 w.heap.size (.int .i64 1) (.int .i64 k) (.int .u64 0) (.int .u64 (size:Int)) (.slice (some ⟨b,o,none⟩) 1 sc) (.slice da D.length dc)∧Rt w6 (w.heap.size+1) 0 ⟨#[]⟩∧Below w.heap.size w w6):=⟨h6d,hRt,hb6'⟩
  clear HS4 hb4 hb6' hB h6d hRt hwy k0 k1 k2 k3 k4 k5 hall
  simp only [puts]
  go_simp
  go_upto_region 12 with (fail)
  obtain ⟨ay,hay⟩ : ∃ ay,(if dc - H=A.length then ax else Option.map (fun x=>x.add A.length) ax)=ay:=⟨_,rfl⟩
  have hEl:=HE.out.1
  have hDl:D.length - H=A.length+B.length:=by rw [← hEl,List.length_drop]
  have hAz:(A.length:Int)≤((dc - H:Nat):Int):=by have:=HX.out.2.2.1; omega
  have hAz2:(A.length:Int)≤((D.length - H:Nat):Int):=by omega
  have hc3:((dc - H:Nat):Int)≤9223372036854775807:=by have:=HX.out.2.2.2.2.2.2.2.2; omega
  have hcl:A.length+B.length≤dc - H:=by have:=HX.out.2.2.1; omega
  obtain ⟨E,hE⟩ : ∃ E,D.drop H=E:=⟨_,rfl⟩
  obtain ⟨cx,hcx⟩ : ∃ cx,dc - H=cx:=⟨_,rfl⟩
  rw [hE] at HA hEl
  rw [hcx] at HA hay hAz hc3 hcl ⊢
  rw [hDl] at hAz2 ⊢
  have zpk:pk.size=clk k:=by rw [← HE.out.2.2.2.1]; exact rs_size (clk_le k) _ _ _ HE.out.2.2.2.2.2
  have hck:=clk_le k
  have HC:=cat_peaks w6 ax ay db (dO+H) A.length B.length cx (cx - A.length) E pk (by omega) (HA.out w6 HS6.out.2.2).1 (fun e=>(HA.out w6 HS6.out.2.2).2 e) hEl (by have:=HX.out.2.2.2.2.2.2.2.1; omega) (by omega) rfl hay
  obtain ⟨P,hP⟩ : ∃ P,E.take A.length++pk::E.drop A.length=P:=⟨_,rfl⟩
  obtain ⟨pn,hpn⟩ : ∃ pn,A.length+1+B.length=pn:=⟨_,rfl⟩
  rw [hP,hpn] at HC
  have hPk:pkP (clk k) i A.length H D x=P:=by
   rw [← hP,pkP,hE,HE.out.2.2.1,HE.out.2.2.2.1]
  have hPs : ∀ s∈P,s.size≤140737488351232:=fun s hs=>by
   rw [← hP] at hs
   rcases List.mem_append.1 hs with hs | hs
   ·have:=HE.out.2.1 s (List.mem_of_mem_drop (by rw [hE]; exact List.mem_of_mem_take hs)); omega
   ·rcases List.mem_cons.1 hs with rfl | hs
    ·omega
    ·have:=HE.out.2.1 s (List.mem_of_mem_drop (by rw [hE]; exact List.mem_of_mem_drop hs)); omega
  have hpn8:pn≤8796093022208:=by have:=HX.out.2.2.2.2.2.2.2.1; omega
  have hrq:dg (clk k) (rootT size (bagL (clk k) P))=r:=by rw [← hPk]; exact HQ.out
  have HRo:Hid (∀ W,Below w.heap.size w W → ∀ ao' b' cap',RdS W ao' b' 0 pn P→Calls Tryz.prog 77 #[.int .i64 k,.int .u64 (size:Int),.slice ao' pn cap'] W fun e w'=>e = .returned (.string r)∧Below W.heap.size W w'):=fun W hb ao' b' cap' hr'=>root_any W (HT.out W hb) k size ao' b' 0 pn cap' P hr' hPs hpn8 r hrq
  have hb6:=HS6.out.2.2
  have hbp:=bal (bal (Below.refl w6.heap.size w6) (.cells #[.string pk] 9)) (.cells #[.slice ax A.length cx,.slice (some ⟨w6.heap.size,0,none⟩) 1 1,.slice ay B.length (cx - A.length)] 22)
  have hAz3:(A.length:Int)≤(A.length:Int)+(B.length:Int):=by omega
  have hAz4:A.length≤A.length+B.length:=by omega
  clear hDl hP hpn hPk hPs hpn8 hrq hE hcx hEl zpk hck
  go_region_with (go_at_call 118; with_reducible refine HC.mono ?_; rintro e w8 ⟨ao8,b8,c8,rfl,r8,hb8⟩)
  have h68:=HS6.out.1.next hb8
  obtain ⟨t0,t1,t2,t3,t4,t5⟩:=h68.cells
  have hb68:=bnext hb6 hb8
  have hR8:=HS6.out.2.1.below hb8 (World.block_lt_of_cell? w6 _ HS6.out.2.1.c0)
  have HR8:=hide hR8
  have H68:=hide h68
  clear hR8 h68 HC hbp hb6 hAz hAz2 hc3 hcl
  go_upto_region 13 with (fail)
  refine wp_region_planI (by kernel_rfl) [68,69,70,71,72,73,74,75,76,1009,5] [9] [.pointer (some ⟨w.heap.size,3,none⟩),.int .u64 (size:Int),.pointer (some ⟨w.heap.size,1,none⟩),.int .i64 k,.pointer (some ⟨w.heap.size,3,none⟩),.int .u64 (size:Int),.slice ao8 pn c8,.string r,.agg #[.int .u64 (size:Int),.string r],undef,.int .i64 0] (by kernel_rfl) rfl (fun j hj=>by simp at hj; subst hj; rfl) (fun L W=>(L 9=false→Below w8.heap.size w8 W)∧(L 9=true→W.cell? ⟨w.heap.size+1,0,none⟩=some (.int .u64 (size:Int))∧W.cell? ⟨w.heap.size+1,1,none⟩=some (.string r)∧Below w.heap.size w W)) (fun W _ hb=>⟨fun _=>hb,fun h=>by cases h⟩) ?step ?fin
  case step =>
   refine ⟨?_,?_,?_,?_,?_,?_,?_,?_,?_,?_,?_,trivial⟩
   ·intro L Ac Wc K hI hj hcl hsm dep hK
    have t2:Ac.tmps.getD 2 undef = .pointer (some ⟨w.heap.size,0,none⟩):=hsm 2 rfl
    show Oper.wp _ _ Ac Wc K _
    go_simp
    exact hK _ _ (.inr rfl) hI
   ·intro L Ac Wc K hI hj hcl hsm dep hK
    have t68:Ac.tmps.getD 68 undef = .pointer (some ⟨w.heap.size,3,none⟩):=dep 0 rfl
    show Oper.wp _ _ Ac Wc K _
    have hL:L 9=false:=by
     cases h:L 9 with
     | false=>rfl
     | true=>rw [hcl 8 1 (hcl 9 8 h rfl) rfl] at hj; cases hj
    obtain ⟨g0,g1,g2,g3,g4,g5⟩:=(H68.out.next (hI.1 hL)).cells
    go_simp
    exact hK _ _ (.inr rfl) hI
   ·intro L Ac Wc K hI hj hcl hsm dep hK
    have t2:Ac.tmps.getD 2 undef = .pointer (some ⟨w.heap.size,0,none⟩):=hsm 2 rfl
    show Oper.wp _ _ Ac Wc K _
    go_simp
    exact hK _ _ (.inr rfl) hI
   ·intro L Ac Wc K hI hj hcl hsm dep hK
    have t70:Ac.tmps.getD 70 undef = .pointer (some ⟨w.heap.size,1,none⟩):=dep 2 rfl
    show Oper.wp _ _ Ac Wc K _
    have hL:L 9=false:=by
     cases h:L 9 with
     | false=>rfl
     | true=>rw [hcl 7 3 (hcl 8 7 (hcl 9 8 h rfl) rfl) rfl] at hj; cases hj
    obtain ⟨g0,g1,g2,g3,g4,g5⟩:=(H68.out.next (hI.1 hL)).cells
    go_simp
    exact hK _ _ (.inr rfl) hI
   ·intro L Ac Wc K hI hj hcl hsm dep hK
    have t2:Ac.tmps.getD 2 undef = .pointer (some ⟨w.heap.size,0,none⟩):=hsm 2 rfl
    show Oper.wp _ _ Ac Wc K _
    go_simp
    exact hK _ _ (.inr rfl) hI
   ·intro L Ac Wc K hI hj hcl hsm dep hK
    have t72:Ac.tmps.getD 72 undef = .pointer (some ⟨w.heap.size,3,none⟩):=dep 4 rfl
    show Oper.wp _ _ Ac Wc K _
    have hL:L 9=false:=by
     cases h:L 9 with
     | false=>rfl
     | true=>rw [hcl 7 5 (hcl 8 7 (hcl 9 8 h rfl) rfl) rfl] at hj; cases hj
    obtain ⟨g0,g1,g2,g3,g4,g5⟩:=(H68.out.next (hI.1 hL)).cells
    go_simp
    exact hK _ _ (.inr rfl) hI
   ·intro L Ac Wc K hI hj hcl hsm dep hK
    have t12:Ac.tmps.getD 12 undef = .slice ao8 pn c8:=hsm 12 rfl
    show Oper.wp _ _ Ac Wc K _
    go_simp
    exact hK _ _ (.inr rfl) hI
   ·intro L Ac Wc K hI hj hcl hsm dep hK
    have t71:Ac.tmps.getD 71 undef = .int .i64 k:=dep 3 rfl
    have t73:Ac.tmps.getD 73 undef = .int .u64 (size:Int):=dep 5 rfl
    have t74:Ac.tmps.getD 74 undef = .slice ao8 pn c8:=dep 6 rfl
    show Oper.wp _ _ Ac Wc K _
    have hL:L 9=false:=by
     cases h:L 9 with
     | false=>rfl
     | true=>rw [hcl 8 7 (hcl 9 8 h rfl) rfl] at hj; cases hj
    go_simp
    refine (HRo.out Wc (bnext hb68 (hI.1 hL)) _ _ _ (r8.next (hI.1 hL) (Nat.le_refl _))).mono ?_
    rintro e w' ⟨rfl,hb⟩
    exact hK _ _ (.inr rfl) ⟨fun _=>bnext (hI.1 hL) hb,fun h=>by have h':L 9=true:=h; rw [hL] at h'; cases h'⟩
   ·intro L Ac Wc K hI hj hcl hsm dep hK
    have t69:Ac.tmps.getD 69 undef = .int .u64 (size:Int):=dep 1 rfl
    have u69:Ac.tmps[69]?.getD undef = .int .u64 (size:Int):=by rw [← Array.getD_eq_getD_getElem?]; exact t69
    have t75:Ac.tmps.getD 75 undef = .string r:=dep 7 rfl
    have u75:Ac.tmps[75]?.getD undef = .string r:=by rw [← Array.getD_eq_getD_getElem?]; exact t75
    show Oper.wp _ _ Ac Wc K _
    go_simp
    exact hK _ _ (.inr rfl) hI
   ·intro L Ac Wc K hI hj hcl hsm dep hK
    have t4:Ac.tmps.getD 4 undef = .pointer (some ⟨w.heap.size+1,0,none⟩):=hsm 4 rfl
    have t76:Ac.tmps.getD 76 undef = .agg #[.int .u64 (size:Int),.string r]:=dep 8 rfl
    show Oper.wp _ _ Ac Wc K _
    have hR9:=HR8.out.below (hI.1 hj) (World.block_lt_of_cell? w8 _ HR8.out.c0)
    have z0:=hR9.c0
    have z1:=hR9.c1
    have y0:=hR9.f0
    have y1:=hR9.f1
    obtain ⟨s0,s1,hch⟩:=rt_put hR9 (size:Int) r
    go_simp
    exact hK undef _ (.inl rfl) ⟨(fun h=>by cases h),fun _=>⟨s0,s1,(bnext hb68 (hI.1 hj)).trans (hch.below (by rintro b rfl; omega))⟩⟩
   ·intro L Ac Wc K hI hj hcl hsm dep hK
    show Oper.wp _ _ Ac Wc K _
    go_simp
    exact hK _ _ (.inr rfl) hI
  case fin =>
   intro L wF hall hI
   obtain ⟨s0,s1,hbF⟩:=hI.2 (hall 9 (by decide))
   clear hI hall
   simp only [puts]
   go_simp
   go_wp2
   refine bodyPost_ret (v := .tuple #[.agg #[.int .u64 (size:Int),.string r],.int .i64 0]) (by simp [results,Tryz.results72,go_sem,s0,s1]) rfl ⟨rfl,hbF⟩
end Go.Proofs.YtipcenbndhnnhaaGreatDoor
namespace Go.Proofs.YtipcenbndhnnhaaGreatDoor
open Go.RowKit
open Cv (zl)
attribute [local go_sem ↓] Go.wp_at_zero Go.wp_at_succ
theorem clk_id {k:Int} (h:1≤k∧k≤32):(clk k:Int)=k:=by unfold clk; rw [if_neg (by omega),if_neg (by omega)]; omega
theorem prove_rd (w:World) (m:Nat) (k:Int) (L:List ByteArray) (hF:Frs w m k L) (n i H:Nat) (A B:List (Nat×Nat)) (hw:Wy n i A H B) (hn:n≤L.length) (hi:i<n) (D:List ByteArray) (hD:dgP (clk k) L i H A B=D) :
  Calls Tryz.prog 16 #[.pointer (some ⟨m+1,0,none⟩),.int .u64 (n:Int),.int .u64 (i:Int)] w fun e w' => ∃ bs cs ad bd cd,e = .returned (.tuple #[.agg #[.int .i64 1,.int .i64 k,.int .u64 0,.int .u64 (n:Int),.slice (some ⟨bs,0,none⟩) 1 cs,.slice ad D.length cd],.int .i64 0])∧RA w' k n bs 0 i H A B∧RdS w' ad bd 0 D.length D∧D.length≤cd∧cd≤9223372036854775807∧(ad=none→cd=0)∧fil k (H+A.length+B.length) D∧OwnS w' w.heap.size (.slice ad D.length cd) D∧Cv.Own w' w.heap.size (.slice (some ⟨bs,0,none⟩) 1 cs) [i]∧Below w.heap.size w w':=by
 have hk:1≤k∧k≤32:=⟨hF.k1,hF.k2⟩
 have hL:=hF.hn
 refine (prove_ok w m k L hF n i H A B hw hn hi D hD).mono fun e w' ⟨vs,vd,e1,e2,e3,e4⟩ => ?_
 have hs : ∀ s∈D,s.size=clk k:=by rw [← hD]; exact dgP_size (clk_le k) L i H A B
 have hc:=clk_le k
 obtain ⟨ad,bd,cd,rfl,rd,hcd,hnd⟩:=owns_rds e3 (fun s hs'=>by rw [hs s hs']; omega)
 obtain ⟨h1,h2⟩:=id e2
 rcases h2 with ⟨_,h2⟩ | ⟨bs,cs,cur,rfl,hg,hh,hcp,hcm,hcz,hct⟩
 ·cases h2
 have hcd63:cd≤9223372036854775807:=by
  rcases e3.2 with ⟨h,_⟩ | ⟨_,_,_,h,_,_,_,h9,_⟩
  ·have:=(Value.slice.inj h).2.2; omega
  ·have:=(Value.slice.inj h).2.2; unfold maxLen at h9; omega
 refine ⟨bs,cs,ad,bd,cd,e1,⟨hk,by omega,hi,hw,?_⟩,rd,hcd,hcd63,hnd,⟨?_,fun d hd=>by rw [hs d hd]; exact clk_id hk⟩,e3,e2,e4⟩
 ·have:=e2.cells (g:=bs) rfl 0 (.int .u64 (i:Int)) rfl
  rwa [Addr.add_mid] at this
 ·rw [← hD,dgP_len]; omega
theorem rt_complete {c n i H:Nat} {A B:List (Nat×Nat)} {L:List ByteArray} (h:Wy n i A H B) (hn:n≤2^40) (hL:n≤L.length):rtP c n i A.length H (dgP c L i H A B) (L.getD i ByteArray.empty)=rtD c L n:=by
 rw [rtP,pk_complete h hn hL]; rfl
end Go.Proofs.YtipcenbndhnnhaaGreatDoor
namespace Go.Proofs.YtipcenbndhnnhaaGreatDoor
open Go.RowKit
theorem errS_one {n i:Nat} (hn:n≤2^40) (hi:i<n):Cv.errS n [i]=0:=by
 have h1:Cv.incB [i]=true:=(Cv.incB_iff [i]).2 ⟨by simp,fun j hj=>by simp at hj⟩
 rw [Cv.errS,if_neg (by omega),if_neg (by rw [h1]; decide),if_neg (by show ¬ n≤i; omega)]
theorem rst_path {n i H:Nat} {A B:List (Nat×Nat)} (h:Wy n i A H B) (hn:n≤2^40) (hi:i<n):(Cv.rst 0 n [i]).length=H+A.length+B.length:=by
 have hc:Cv.Chain 0 [i] n:=by
  have he:Cv.errS n [i]=0:=errS_one hn hi
  exact (Cv.errS_ok he).2.2.2
 rw [Cv.rest_ref n [i] hn hc,h.all,List.flatMap_append,List.flatMap_cons,List.length_append,List.length_append]
 have hp : ∀ t,Pl.pw t=2^t:=fun _=>rfl
 have out : ∀ (M:List (Nat×Nat)),(∀ b∈M,¬ (b.2 * Pl.pw b.1≤i∧i<(b.2+1) * Pl.pw b.1))→(M.flatMap fun b=>Cv.tno b.1 b.2 [i]).length=M.length:=by
  intro M
  induction M with
  | nil=>intro _; rfl
  | cons b M ih =>
   intro hM
   rw [List.flatMap_cons,List.length_append,tno_out (hM b List.mem_cons_self),ih (fun c hc=>hM c (List.mem_cons_of_mem _ hc)),List.length_cons]
   omega
 rw [out A (fun b hb=>by rw [hp]; have:=h.left b hb; omega),out B (fun b hb=>by rw [hp]; have:=h.right b hb; omega)]
 have hin:(Cv.tno H (i / 2^H) [i]).length=H:=tno_in i H (i / 2^H) (by rw [hp]; exact Nat.div_mul_le_self _ _) (by
  rw [hp,Nat.add_mul,Nat.one_mul,Nat.mul_comm]
  have h1:=Nat.div_add_mod i (2^H)
  have h2:=Nat.mod_lt i (Nat.two_pow_pos H)
  omega)
 show A.length+((Cv.tno H (i / 2^H) [i]).length+B.length)=_
 rw [hin]; omega
def pvP1 (k:Int) (L:List ByteArray) (n i H:Nat) (A B:List (Nat×Nat)):PV:=⟨1,k,0,n,[i],dgP (clk k) L i H A B⟩
theorem well_path {k:Int} (k1:1≤k) (k2:k≤32) (L:List ByteArray) {n i H:Nat} {A B:List (Nat×Nat)} (h:Wy n i A H B) (hn:n≤2^40) (hi:i<n):Well (pvP1 k L n i H A B):=by
 refine ⟨?_,fun d hd => ?_⟩
 ·show cnt 1 k 0 n [i]=some (dgP (clk k) L i H A B).length
  rw [dgP_len,cnt,if_pos ⟨k1,k2,hn⟩,if_pos rfl,if_pos ⟨rfl,rfl,errS_one hn hi⟩,rst_path h hn hi,Nat.add_assoc]
 ·show (d.size:Int)=k
  rw [dgP_size (clk_le k) L i H A B d hd]; exact clk_of k1 k2
theorem claims_path (w:World) (ht:Tb w) (k:Int) (k1:1≤k) (k2:k≤32) (L:List ByteArray) {n i H:Nat} {A B:List (Nat×Nat)} (h:Wy n i A H B) (hn:n≤2^40) (hi:i<n) (hL:n≤L.length) (x:ByteArray) (hx:L.getD i ByteArray.empty=x) (hxs:x.size≤1048576) (ca:Option Addr) (cb co cc:Nat) (hc:RdK w ca cb co 1 [(i,x)]) (s:ByteArray) (hs:s.size≤281474976710656) (D:List ByteArray) (hD:dgP (clk k) L i H A B=D) (hd:dec s.data.toList=some ⟨1,k,0,n,[i],D⟩) (rr:ByteArray) (hrr:rtD (clk k) L n=rr) :
  Calls Tryz.prog 14 #[.int .i64 k,.agg #[.int .u64 (n:Int),.string rr],.slice ca 1 cc,.string s] w fun e w'=>e = .returned (.int .i64 0)∧Below w.heap.size w w':=by
 have hW:=(enc_dec hd).1
 have hDl:D.length≤9223372036854775807:=by have h1:D.length≤1099511627776:=(cnt_ok hW.1).hc; omega
 have hfl:fil k (H+A.length+B.length) D:=by
  refine ⟨by rw [← hD,dgP_len]; omega,fun d hdm => ?_⟩
  exact hW.2 d hdm
 refine claims_led w k k1 k2 n rr ca cb co 1 cc [(i,x)] hc (by decide) s hs _ hd rfl ⟨.inl rfl,rfl⟩ n rr 0 (fun W sa sb sc da db dc ao m c hb hF ho => ?_) 0 (by rw [clmD,if_pos ⟨rfl,rfl,rfl⟩])
 obtain ⟨ao',xb,c',hv',hx2,hxc,hxn⟩:=owns_rds ho (fun y hy=>by simp at hy; subst hy; omega)
 injection hv' with e1 e2 e3
 subst e1 e2 e3
 refine leads_path W k 0 n sa 1 sc da D.length dc ao xb 0 1 c [x] hx2 (by decide) n rr 0 fun Z hbZ => ?_
 have hF2:=hF.next hbZ
 have hpt:=hF2.p.rs.ptr (show 0<1 by decide)
 subst hpt
 have hra:RA Z k n sb 0 i H A B:=⟨⟨k1,k2⟩,hn,hi,h,by have:=hF2.p.rs.at (j:=0) (show 0<1 by decide); simpa using this⟩
 exact proot_okT Z k n sb 0 sc i H A B hra da db 0 dc D hF2.p.rd hDl x hfl hxs (ht.next (bnext hb hbZ)) hF2.p.cD hF2.mC hF2.nD rr (by rw [← hrr,← hD,← hx]; exact rt_complete h hn hL)
theorem rh_box (w:World) (n:Nat) (d:ByteArray) : ∃ W,w.alloc (.cells #[.int .u64 (n:Int),.string d] 32)=W∧Rh W w.heap.size n d∧Below w.heap.size w W:=⟨_,rfl,rh_new w n d,bal (Below.refl _ _) _⟩
theorem rdk_first {w:World} {ca:Option Addr} {cb co cn:Nat} {l:List (Nat×ByteArray)} (h:RdK w ca cb co cn l) (h0:0<cn):RdK w ca cb co 1 [l.getD 0 noC]:=by
 have hl:=h.hl
 match l,hl with
 | [],hl=>exact absurd hl (by simp; omega)
 | c::l,_ =>
  refine ⟨rfl,fun _=>h.ptr h0,fun j v hv=>h.rng j v ?_,fun x hx=>h.sz x ?_⟩
  ·have hj:j<(cK [c]).length:=by
    rcases Nat.lt_or_ge j (cK [c]).length with h1 | h1
    ·exact h1
    ·rw [show (c::l).getD 0 noC=c from rfl,List.getElem?_eq_none h1] at hv; cases hv
   rw [show c::l=[c]++l from rfl,cK_app,List.getElem?_append_left hj]
   exact hv
  ·simp at hx; subst hx; exact List.mem_cons_self
theorem clm_head (T:List ByteArray) (S:List Nat) (h:0<S.length):(clm T S S.length).getD 0 noC=(S.getD 0 0,T.getD (S.getD 0 0) ByteArray.empty):=by
 rw [clm,List.take_of_length_le (Nat.le_refl _)]
 match S,h with
 | x::S,_=>rfl
theorem whole_calls {k:Int} (k1:1≤k) (k2:k≤32) (T:List ByteArray) (hT:T.length≤200) (hTs : ∀ s∈T,s.size≤1048576) {n:Nat} (hn:n≤T.length) (S:List Nat) (he:Cv.errS n S=0) (ot:Int) (o1:1≤ot) (o2:ot≤32) (rr:ByteArray) (hrr:rtD (clk k) T n=rr) :
  ∃ (i:Nat) (D E:List ByteArray) (s t:ByteArray),(S.getD 0 0=i∧0<S.length∧S.length≤200∧(∀ j,j<S.length→S.getD j 0<T.length) ∧ ∀ j,∀ c∈clm T S j,c.2.size≤9223372036854775807) ∧
  (∀ W f sa sb so sc,Frs W f k T→RdU W sa sb so S.length S→Calls Tryz.prog 11 #[.pointer (some ⟨f+1,0,none⟩),.int .u64 (n:Int),.slice sa S.length sc] W fun e w' => ∃ gs cs ad bd cd,e = .returned (.tuple #[.agg #[.int .i64 2,.int .i64 k,.int .u64 0,.int .u64 (n:Int),.slice (some ⟨gs,0,none⟩) S.length cs,.slice ad D.length cd],.int .i64 0])∧Hid (RdU w' (some ⟨gs,0,none⟩) gs 0 S.length S∧RdS w' ad bd 0 D.length D∧D.length≤cd)∧Below W.heap.size W w') ∧
  (∀ W gs cs ad bd cd,RdU W (some ⟨gs,0,none⟩) gs 0 S.length S→RdS W ad bd 0 D.length D→D.length≤cd→Calls Tryz.prog 13 #[.agg #[.int .i64 2,.int .i64 k,.int .u64 0,.int .u64 (n:Int),.slice (some ⟨gs,0,none⟩) S.length cs,.slice ad D.length cd]] W fun e w'=>e = .returned (.tuple #[.string s,.int .i64 0])∧Below W.heap.size W w') ∧
  (∀ W f,Frs W f k T→Calls Tryz.prog 16 #[.pointer (some ⟨f+1,0,none⟩),.int .u64 (n:Int),.int .u64 (i:Int)] W fun e w' => ∃ bs cs ad cd,e = .returned (.tuple #[.agg #[.int .i64 1,.int .i64 k,.int .u64 0,.int .u64 (n:Int),.slice (some ⟨bs,0,none⟩) 1 cs,.slice ad E.length cd],.int .i64 0])∧Cv.Own w' W.heap.size (.slice (some ⟨bs,0,none⟩) 1 cs) [i]∧OwnS w' W.heap.size (.slice ad E.length cd) E∧Below W.heap.size W w') ∧
  (∀ W B bs cs ad cd,Cv.Own W B (.slice (some ⟨bs,0,none⟩) 1 cs) [i]→OwnS W B (.slice ad E.length cd) E→Calls Tryz.prog 13 #[.agg #[.int .i64 1,.int .i64 k,.int .u64 0,.int .u64 (n:Int),.slice (some ⟨bs,0,none⟩) 1 cs,.slice ad E.length cd]] W fun e w'=>e = .returned (.tuple #[.string t,.int .i64 0])∧Below W.heap.size W w') ∧
  (∀ W ca cb cc,Tb W→RdK W ca cb 0 S.length (clm T S S.length)→Calls Tryz.prog 14 #[.int .i64 k,.agg #[.int .u64 (n:Int),.string rr],.slice ca S.length cc,.string s] W fun e w'=>e = .returned (.int .i64 0)∧Below W.heap.size W w') ∧
  (∀ W ca cc,ot≠k→Calls Tryz.prog 14 #[.int .i64 ot,.agg #[.int .u64 (n:Int),.string rr],.slice ca S.length cc,.string s] W fun e w'=>e = .returned (.int .i64 150)∧Below W.heap.size W w') ∧
  (∀ W ca cb cc,Tb W→RdK W ca cb 0 S.length (clm T S S.length)→Calls Tryz.prog 14 #[.int .i64 k,.agg #[.int .u64 ((n:Int)+1),.string rr],.slice ca S.length cc,.string s] W fun e w'=>e = .returned (.int .i64 150)∧Below W.heap.size W w') ∧
  (∀ W ca cb cc,Tb W→RdK W ca cb 0 S.length (clm T S S.length)→Calls Tryz.prog 14 #[.int .i64 k,.agg #[.int .u64 (n:Int),.string rr],.slice ca 1 cc,.string t] W fun e w'=>e = .returned (.int .i64 0)∧Below W.heap.size W w') ∧
  (∀ W ca cb cc,1<S.length→RdK W ca cb 0 S.length (clm T S S.length)→Calls Tryz.prog 14 #[.int .i64 k,.agg #[.int .u64 (n:Int),.string rr],.slice ca S.length cc,.string t] W fun e w'=>e = .returned (.int .i64 150)∧Below W.heap.size W w'):=by
 have h40:n≤2^40:=by omega
 obtain ⟨_,hinc,_,hch⟩:=Cv.errS_ok he
 have hS0:0<S.length:=hinc.1
 obtain ⟨D,hD⟩ : ∃ D,dgB (clk k) T n S=D:=⟨_,rfl⟩
 have hwP:Well ⟨2,k,0,n,S,D⟩:=by rw [← hD]; exact well_batch k1 k2 T h40 he
 obtain ⟨s,hs⟩ : ∃ s,(⟨(enc ⟨2,k,0,n,S,D⟩).toArray⟩:ByteArray)=s:=⟨_,rfl⟩
 obtain ⟨hds,hss⟩:=enc_back hwP hs
 have hoP:=cnt_ok hwP.1
 have hSl:S.length≤200:=by have h1:S.length≤n:=hoP.len; omega
 have hDl:D.length≤8796093022208:=Nat.le_trans (show D.length≤1099511627776 from hoP.hc) (by decide)
 have hss2:s.size≤281474976710656:=Nat.le_trans hss (by decide)
 have hmem : ∀ j,j<S.length→S.getD j 0<n:=fun j hj=>(Cv.chain_mem hch (S.getD j 0) (by rw [List.getD_eq_getElem?_getD,List.getElem?_eq_getElem hj]; exact List.getElem_mem _)).2
 obtain ⟨i,hi⟩ : ∃ i,S.getD 0 0=i:=⟨_,rfl⟩
 have hin:i<n:=by rw [← hi]; exact hmem 0 hS0
 obtain ⟨A,H,B,hy⟩:=wy_ex n i h40 hin
 obtain ⟨E,hE⟩ : ∃ E,dgP (clk k) T i H A B=E:=⟨_,rfl⟩
 have hwE:Well ⟨1,k,0,n,[i],E⟩:=by rw [← hE]; exact well_path k1 k2 T hy h40 hin
 obtain ⟨t,ht⟩ : ∃ t,(⟨(enc ⟨1,k,0,n,[i],E⟩).toArray⟩:ByteArray)=t:=⟨_,rfl⟩
 obtain ⟨hdt,hst⟩:=enc_back hwE ht
 have hoE:=cnt_ok hwE.1
 have hEl:E.length≤8796093022208:=Nat.le_trans (show E.length≤1099511627776 from hoE.hc) (by decide)
 have hst2:t.size≤281474976710656:=Nat.le_trans hst (by decide)
 have hn64:n<18446744073709551616:=by omega
 have hix:ixs (clm T S S.length)=S:=clm_ixs T S
 have hvl:vls (clm T S S.length)=S.map fun x=>T.getD x ByteArray.empty:=clm_vls T S
 have hvz : ∀ x∈vls (clm T S S.length),x.size≤1048576:=fun x hx=>by
  obtain ⟨c,hc,rfl⟩:=List.mem_map.1 hx
  exact clm_size T S _ hTs c hc
 have hbt:dg (clk k) (rootT n (bagL (clk k) (pB (clk k) (Cv.dnL 41 0 n) S (vls (clm T S S.length)) D)))=rr:=by
  rw [hvl,← hD,batch_complete (clk k) T n S hn he,← hrr]; rfl
 refine ⟨i,D,E,s,t,⟨hi,hS0,hSl,fun j hj=>Nat.lt_of_lt_of_le (hmem j hj) hn,fun j c hc=>Nat.le_trans (clm_size T S j hTs c hc) (by decide)⟩,?_,?_,?_,?_,?_,?_,?_,?_,?_⟩
 ·intro W f sa sb so sc hF hU
  exact (bprove_rd W f k T hF (by omega) n hn sa sb so sc S hU he D hD).mono fun e w' ⟨gs,cs,ad,bd,cd,h1,h2,_,h4,h5,_,_,_,h8⟩=>⟨gs,cs,ad,bd,cd,h1,⟨h2,h4,h5⟩,h8⟩
 ·intro W gs cs ad bd cd h1 h2 h3
  have:=encode_yes W (some ⟨gs,0,none⟩) gs 0 cs ad bd 0 cd ⟨2,k,0,n,S,D⟩ ⟨h1,h2,(by show (0:Nat)<18446744073709551616; decide),hn64,Nat.le_trans hSl (by decide),hDl,h3⟩ hwP
  rw [hs] at this
  exact this
 ·intro W f hF
  exact (prove_rd W f k T hF n i H A B hy hn hin E hE).mono fun e w' ⟨bs,cs,ad,bd,cd,h1,_,_,_,_,_,_,h7,h8,h9⟩=>⟨bs,cs,ad,cd,h1,h8,h7,h9⟩
 ·intro W B' bs cs ad cd o1 o2
  obtain ⟨sa,sb,sc,da,db,dc,e1,e2,hF⟩:=own_rdf hwE o1 o2
  injection e1 with e1 e11 e12
  injection e2 with e2 e21 e22
  subst e1 e12 e2 e22
  have:=encode_yes W (some ⟨bs,0,none⟩) sb 0 cs ad db 0 cd ⟨1,k,0,n,[i],E⟩ hF.p hwE
  rw [ht] at this
  exact this
 ·intro W ca cb cc hT hc
  exact claims_batch W hT k k1 k2 n rr ca cb 0 S.length cc _ hc (by omega) s hss2 _ hds rfl rfl hix.symm hvz 0 (by show clmD n (dg (clk k) (rootT n (bagL (clk k) (pB (clk k) (Cv.dnL 41 0 n) S (vls (clm T S S.length)) D)))) 0 n rr=0; rw [hbt,clmD,if_pos ⟨rfl,rfl,rfl⟩])
 ·intro W ca cc hne
  exact claims_no W ot n rr ca S.length cc s hss2 150 (by rw [tkE,if_neg (by omega),hds]; show (if k=ot then (0:Int) else 150)=150; rw [if_neg (fun h=>hne h.symm)]) (by decide)
 ·intro W ca cb cc hT hc
  exact claims_batch W hT k k1 k2 (n+1) rr ca cb 0 S.length cc _ hc (by omega) s hss2 _ hds rfl rfl hix.symm hvz 150 (by show clmD n (dg (clk k) (rootT n (bagL (clk k) (pB (clk k) (Cv.dnL 41 0 n) S (vls (clm T S S.length)) D)))) 0 (n+1) rr=150; rw [clmD,if_neg (fun h=>absurd h.2.1 (by omega))])
 ·intro W ca cb cc hT hc
  have h1:=rdk_first hc hS0
  have h2:(clm T S S.length).getD 0 noC=(i,T.getD i ByteArray.empty):=by rw [clm_head T S hS0,hi]
  rw [h2] at h1
  exact claims_path W hT k k1 k2 T hy h40 hin hn _ rfl (hTs _ (by rw [List.getD_eq_getElem?_getD,List.getElem?_eq_getElem (show i<T.length by omega)]; exact List.getElem_mem _)) ca cb 0 cc h1 t hst2 E hE hdt rr hrr
 ·intro W ca cb cc hl hc
  exact claims_off W k k1 k2 n rr ca cb 0 S.length cc _ hc t hst2 _ hdt rfl (fun h=>by
   have h2:[i]=S:=h.2.trans hix
   rw [← h2] at hl
   exact absurd hl (Nat.lt_irrefl 1))
theorem kin_calls {k:Int} (k1:1≤k) (k2:k≤32) (T:List ByteArray) (hT:T.length≤200) {m n:Nat} (hn:n≤T.length) (hmn:m≤n) (rm rr:ByteArray) (hrm:rtD (clk k) T m=rm) (hrr:rtD (clk k) T n=rr) :
  ∃ (E:List ByteArray) (t:ByteArray),
  (∀ W f,Frs W f k T→Calls Tryz.prog 12 #[.pointer (some ⟨f+1,0,none⟩),.int .u64 (m:Int),.int .u64 (n:Int)] W fun e w' => ∃ ad bd cd,e = .returned (.tuple #[.agg #[.int .i64 3,.int .i64 k,.int .u64 (m:Int),.int .u64 (n:Int),.slice none 0 0,.slice ad E.length cd],.int .i64 0])∧Hid (RdS w' ad bd 0 E.length E∧E.length≤cd)∧Below W.heap.size W w') ∧
  (∀ W ad bd cd,RdS W ad bd 0 E.length E→E.length≤cd→Calls Tryz.prog 13 #[.agg #[.int .i64 3,.int .i64 k,.int .u64 (m:Int),.int .u64 (n:Int),.slice none 0 0,.slice ad E.length cd]] W fun e w'=>e = .returned (.tuple #[.string t,.int .i64 0])∧Below W.heap.size W w') ∧
  (∀ W,Tb W→Calls Tryz.prog 15 #[.int .i64 k,.agg #[.int .u64 (m:Int),.string rm],.agg #[.int .u64 (n:Int),.string rr],.string t] W fun e w'=>e = .returned (.int .i64 0)∧Below W.heap.size W w'):=by
 have h40:n≤2^40:=by omega
 obtain ⟨E,hE⟩ : ∃ E,dgKn (clk k) T m n=E:=⟨_,rfl⟩
 have hwK:Well ⟨3,k,m,n,[],E⟩:=by rw [← hE]; exact well_kin k1 k2 T hmn h40
 obtain ⟨t,ht⟩ : ∃ t,(⟨(enc ⟨3,k,m,n,[],E⟩).toArray⟩:ByteArray)=t:=⟨_,rfl⟩
 obtain ⟨hdt,hst⟩:=enc_back hwK ht
 have hoK:=cnt_ok hwK.1
 have hEl:E.length≤8796093022208:=Nat.le_trans (show E.length≤1099511627776 from hoK.hc) (by decide)
 have hst2:t.size≤281474976710656:=Nat.le_trans hst (by decide)
 refine ⟨E,t,?_,?_,?_⟩
 ·intro W f hF
  exact (kprove_rd W f k T hF (by omega) m n hn hmn E hE).mono fun e w' ⟨ad,bd,cd,h1,h2,h3,_,_,h4⟩=>⟨ad,bd,cd,h1,⟨h2,h3⟩,h4⟩
 ·intro W ad bd cd h2 h3
  have:=encode_yes W none 0 0 0 ad bd 0 cd ⟨3,k,m,n,[],E⟩ ⟨⟨rfl,fun h=>absurd h (Nat.lt_irrefl 0),fun j v h=>by cases h⟩,h2,(by show m<18446744073709551616; omega),(by show n<18446744073709551616; omega),Nat.zero_le _,hEl,h3⟩ hwK
  rw [ht] at this
  exact this
 ·intro W hT'
  exact kin_led W k k1 k2 m rm n rr t hst2 _ hdt rfl m rm n rr 0 (fun V sa sb sc da db dc hb hF=>kroots_own V (hT'.next hb) k k1 k2 T (by omega) m n hn hmn E hE sa sc da db 0 dc hF.p.rd hF.p.cD rm rr hrm hrr) _ (by rw [kinD,if_pos ⟨rfl,⟨rfl,rfl⟩,rfl,rfl⟩])
end Go.Proofs.YtipcenbndhnnhaaGreatDoor
