/- Own work. -/
import Derived.Test.YtipcenbndhnnhaaGreatDoorQc44
namespace Go.Proofs.YtipcenbndhnnhaaGreatDoor
open Go.RowKit
attribute [local go_sem ↓] Go.wp_at_zero Go.wp_at_succ
set_option maxRecDepth 100000 in
set_option maxHeartbeats 2000000 in
theorem well_form (w:World) (kd k:Int) (old size:Nat) (sa:Option Addr) (ns sc:Nat) (da:Option Addr) (n2 dc:Nat) (i:Nat) (hx:ns=1 → ∃ b o,sa=some ⟨b,o,none⟩∧w.cell? ⟨b,o,none⟩=some (.int .u64 (i:Int)))
  (hno : ¬ (kd=1∧(1≤k∧k≤32)∧size≤2^40∧old=0∧ns=1∧i<size)) :
  Calls Tryz.prog 85 #[.agg #[.int .i64 kd,.int .i64 k,.int .u64 (old:Int),.int .u64 (size:Int),.slice sa ns sc,.slice da n2 dc]] w fun e w'=>e = .returned (.bool false)∧Below w.heap.size w w':=by
 have hb:=box_next w kd k old size (.slice sa ns sc) (.slice da n2 dc)
 by_cases c1:kd=1
 ·subst c1
  by_cases c2 : ¬ k<1
  ·have f3:decide (k<1)=false:=decide_eq_false c2
   by_cases c3 : ¬ 32<k
   ·have f4:decide ((32:Int)<k)=false:=decide_eq_false c3
    by_cases c4:old=0
    ·subst c4
     rw [show ((0:Nat):Int)=0 from rfl] at *
     by_cases c5 : ¬ 2^40<size
     ·have f8:decide ((1099511627776:Int)<(size:Int))=false:=decide_eq_false (by omega)
      by_cases c6:ns=1
      ·subst c6
       obtain ⟨b,o,rfl,c0⟩:=hx rfl
       have hge:size≤i:=by
        apply Nat.le_of_not_lt
        intro h
        exact hno ⟨rfl,⟨by omega,by omega⟩,by omega,rfl,rfl,h⟩
       have g1:decide ((size:Int)≤(i:Int))=true:=decide_eq_true (by omega)
       have g2:decide (size≤i)=true:=decide_eq_true hge
       have cc:=(hb.cell (p:=⟨b,o,none⟩) (World.block_lt_of_cell? w _ c0)).trans c0
       clear hx hno c0 hge c2 c3 c5
       go_enter Tryz.func85,Tryz.ntmps85
       go_upto_region 1 with (fail)
       go_quiet (fail)
       go_wp2
       go_ret
       exact ⟨rfl,below_drewN hb _⟩
      ·have f9:(((ns:Nat):Int) == 1)=false:=by simp; omega
       have f10:decide (ns=1)=false:=decide_eq_false c6
       have f11 : ¬ (ns:Int)=1:=by omega
       clear hx hno c2 c3 c5
       go_enter Tryz.func85,Tryz.ntmps85
       go_upto_region 1 with (fail)
       go_quiet (fail)
       go_wp2
       go_ret
       exact ⟨rfl,below_drewN hb _⟩
     ·have f8:decide ((1099511627776:Int)<(size:Int))=true:=decide_eq_true (by omega)
      clear hx hno c2 c3
      go_enter Tryz.func85,Tryz.ntmps85
      go_upto_region 1 with (fail)
      go_quiet (fail)
      go_wp2
      go_ret
      exact ⟨rfl,below_drewN hb _⟩
    ·have f5:(((old:Nat):Int) == 0)=false:=by simp; omega
     have f6:decide (old=0)=false:=decide_eq_false c4
     have f7 : ¬ (old:Int)=0:=by omega
     clear hx hno c2 c3
     go_enter Tryz.func85,Tryz.ntmps85
     go_upto_region 1 with (fail)
     go_quiet (fail)
     go_wp2
     go_ret
     exact ⟨rfl,below_drewN hb _⟩
   ·have f4:decide ((32:Int)<k)=true:=decide_eq_true (by omega)
    clear hx hno c2
    go_enter Tryz.func85,Tryz.ntmps85
    go_upto_region 1 with (fail)
    go_quiet (fail)
    go_wp2
    go_ret
    exact ⟨rfl,below_drewN hb _⟩
  ·have f3:decide (k<1)=true:=decide_eq_true (by omega)
   clear hx hno
   go_enter Tryz.func85,Tryz.ntmps85
   go_upto_region 1 with (fail)
   go_quiet (fail)
   go_wp2
   go_ret
   exact ⟨rfl,below_drewN hb _⟩
 ·have f1:(kd == 1)=false:=by simp; exact c1
  have f2:decide (kd=1)=false:=decide_eq_false c1
  clear hx hno
  go_enter Tryz.func85,Tryz.ntmps85
  go_upto_region 1 with (fail)
  go_quiet (fail)
  go_wp2
  go_ret
  exact ⟨rfl,below_drewN hb _⟩
end Go.Proofs.YtipcenbndhnnhaaGreatDoor
namespace Go.Proofs.YtipcenbndhnnhaaGreatDoor
open Go.RowKit
open Cv (RdC zl cU)
attribute [local go_sem ↓] Go.wp_at_zero Go.wp_at_succ
theorem batch_complete (c:Nat) (L:List ByteArray) (n:Nat) (S:List Nat) (hn:n≤L.length) (he:Cv.errS n S=0):pB c (Cv.dnL 41 0 n) S (S.map fun i=>L.getD i ByteArray.empty) (dgB c L n S)=pks c (L.take n) 41:=by
 obtain ⟨h40,_,_,hc⟩:=Cv.errS_ok he
 have hrow:Cv.Row n 0 (Cv.dnL 41 0 n):=by rw [← Cv.cov_zero n h40]; exact Cv.cov_row 0 n (Nat.zero_le _) h40
 have ha:=chain_asc hc
 have hfr:Fr 0 n S:=fun i hi=>Cv.chain_mem hc i hi
 rw [pB_nd c L (Cv.dnL 41 0 n) 0 S _ _ [] hrow ha hfr rfl (by rw [List.append_nil,fB_flat hrow ha hfr,← Cv.rest_ref n S h40 hc]; rfl),← Cv.cov_zero n h40]
 exact (cov_peaks c L n hn h40).1
theorem dgB_size {c:Nat} (hc:c≤32) (L:List ByteArray) (n:Nat) (S:List Nat) : ∀ s∈dgB c L n S,s.size=c:=fun s hs=>by
 obtain ⟨b,_,rfl⟩:=List.mem_map.1 hs
 exact nd_size hc _ _ _
theorem dgB_len (c:Nat) (L:List ByteArray) (n:Nat) (S:List Nat):(dgB c L n S).length=(Cv.rst 0 n S).length:=List.length_map _
theorem bprove_rd (w:World) (m:Nat) (k:Int) (L:List ByteArray) (hF:Frs w m k L) (hL:L.length≤5000) (n:Nat) (hn:n≤L.length) (ao:Option Addr) (b off c:Nat) (S:List Nat) (hr:RdU w ao b off S.length S) (he:Cv.errS n S=0) (D:List ByteArray) (hD:dgB (clk k) L n S=D) :
  Calls Tryz.prog 11 #[.pointer (some ⟨m+1,0,none⟩),.int .u64 (n:Int),.slice ao S.length c] w fun e w' => ∃ gs cs ad bd cd,e = .returned (.tuple #[.agg #[.int .i64 2,.int .i64 k,.int .u64 0,.int .u64 (n:Int),.slice (some ⟨gs,0,none⟩) S.length cs,.slice ad D.length cd],.int .i64 0])∧RdU w' (some ⟨gs,0,none⟩) gs 0 S.length S∧S.length≤cs∧RdS w' ad bd 0 D.length D∧D.length≤cd∧(ad=none→cd=0)∧Cv.Own w' w.heap.size (.slice (some ⟨gs,0,none⟩) S.length cs) S∧OwnS w' w.heap.size (.slice ad D.length cd) D∧Below w.heap.size w w' :=
 (bprove_ok w m k L hF hL n hn ao b off c S hr he D hD).mono fun e w' ⟨vs,vd,e1,e2,e3,e4⟩=>by
  obtain ⟨gs,cs,rfl,_,hcs,_⟩:=ownU_form e2 (rst_num he).2
  obtain ⟨ad,bd,cd,rfl,r3,hcd,hnd⟩:=owns_rds e3 (fun s hs=>by rw [← hD] at hs; rw [dgB_size (clk_le k) _ _ _ s hs]; have:=clk_le k; omega)
  exact ⟨gs,cs,ad,bd,cd,e1,own_rdu (l':=[]) (by rw [List.append_nil]; exact e2),hcs,r3,hcd,hnd,e2,e3,e4⟩
end Go.Proofs.YtipcenbndhnnhaaGreatDoor
namespace Go.Proofs.YtipcenbndhnnhaaGreatDoor
open Go.RowKit
theorem pkP_len {c i a H:Nat} {D:List ByteArray} {x:ByteArray} (h:H+a≤D.length):(pkP c i a H D x).length=D.length - H+1:=by
 rw [pkP,List.length_append,List.length_cons,List.length_take,List.length_drop,List.length_drop,List.length_drop]; omega
end Go.Proofs.YtipcenbndhnnhaaGreatDoor
namespace Go.Proofs.YtipcenbndhnnhaaGreatDoor
open Go.RowKit
open Cv (zl)
attribute [local go_sem ↓] Go.wp_at_zero Go.wp_at_succ
theorem s0 (x:ByteArray):(⟨#[0]⟩:ByteArray)++x=leafT x:=rfl
theorem s1 (a x:ByteArray):((⟨#[1]⟩:ByteArray)++a)++x=nodeT a x:=rfl
theorem s2 (a x:ByteArray):((⟨#[2]⟩:ByteArray)++a)++x=bagT a x:=rfl
theorem pkP_at {c i a H:Nat} {D:List ByteArray} {x:ByteArray} (h:H+a≤D.length) (j:Nat):(pkP c i a H D x).getD j ByteArray.empty=if j<a then D.getD (H+j) ByteArray.empty else if j=a then rs c i (dg c (leafT x)) (D.take H) else D.getD (H+(j - 1)) ByteArray.empty:=by
 have lt:((D.drop H).take a).length=a:=by rw [List.length_take,List.length_drop]; omega
 rw [pkP,List.getD_eq_getElem?_getD]
 split
 ·rename_i h1
  rw [List.getElem?_append_left (by omega),List.getElem?_take_of_lt h1,List.getElem?_drop,List.getD_eq_getElem?_getD]
 ·rw [List.getElem?_append_right (by omega),lt]
  split
  ·rename_i h2
   rw [h2,Nat.sub_self]; rfl
  ·obtain ⟨u,rfl⟩ : ∃ u,j=a+(u+1):=⟨j - a - 1,by omega⟩
   rw [show a+(u+1) - a=u+1 by omega,List.getElem?_cons_succ,List.getElem?_drop,List.getElem?_drop,List.getD_eq_getElem?_getD]
   congr 2
theorem pkP_size {c i a H:Nat} (hc:c≤32) {D:List ByteArray} {x:ByteArray} (hs : ∀ s∈D,s.size=c) : ∀ s∈pkP c i a H D x,s.size=c:=fun s hx=>by
 rw [pkP,List.mem_append,List.mem_cons] at hx
 rcases hx with hx | rfl | hx
 ·exact hs s (List.mem_of_mem_drop (List.mem_of_mem_take hx))
 ·exact rs_size hc _ _ _ (dg_size hc _)
 ·exact hs s (List.mem_of_mem_drop (List.mem_of_mem_drop hx))
theorem RA.next {w W:World} {k:Int} {size b o i H:Nat} {A B:List (Nat×Nat)} (h:RA w k size b o i H A B) (hb:Below w.heap.size w W):RA W k size b o i H A B :=
 ⟨h.k1,h.n,h.il,h.wy,(hb.cell (p:=⟨b,o,none⟩) (World.block_lt_of_cell? w _ h.ci)).trans h.ci⟩
theorem clk_id {k:Int} (h:1≤k∧k≤32):(clk k:Int)=k:=by unfold clk; rw [if_neg (by omega),if_neg (by omega)]; omega
end Go.Proofs.YtipcenbndhnnhaaGreatDoor
namespace Go.Proofs.YtipcenbndhnnhaaGreatDoor
open Go.RowKit
attribute [local go_sem ↓] Go.wp_at_zero Go.wp_at_succ
set_option maxRecDepth 100000 in
theorem refbag_any (w:World) (ht:Tr w) (k:Int) (k1:1≤k) (k2:k≤32) (ao:Option Addr) (b off len cap:Nat) (ss:List ByteArray) (hr:RdS w ao b off len ss) (hsz : ∀ s∈ss,s.size≤1000) (hlen:0<len) (hmx:len≤100) (r:ByteArray) (hq:bagL (clk k) ss=r) :
  Calls Tryz.prog 137 #[.int .i64 k,.slice ao len cap] w fun e w'=>e = .returned (.string r)∧Below w.heap.size w w':=by
 obtain rfl:=hr.ptr hlen
 obtain ⟨m,rfl⟩ : ∃ m,len=m+1:=⟨len - 1,by omega⟩
 have hc:=clk_le k
 have hne : ¬ ((m:Int)+1=0):=by omega
 have cm:=hr.at (k:=m) (by omega)
 have HL:Hid (bagL (clk k) (ss.drop m)=ss.getD m ByteArray.empty):=by
  have:=bagL_last (clk k) ss (by rw [hr.hl]; omega)
  rw [hr.hl] at this; exact this
 have HM:Hid (∀ j,j<m+1→(ss.getD j ByteArray.empty).size≤1000):=fun j hj=>hsz _ (getD_mem (by rw [hr.hl]; exact hj))
 have HD:Hid (∀ j,(bagL (clk k) (ss.drop j)).size≤1000):=fun j=>bagL_size hc (by decide) _ (fun s hs=>hsz s (List.mem_of_mem_drop hs))
 have HN:Hid (∀ j,j<m→bagL (clk k) (ss.drop j)=dg (clk k) (bagT (ss.getD j ByteArray.empty) (bagL (clk k) (ss.drop (j+1))))):=fun j hj=>bagL_drop _ _ _ (by rw [hr.hl]; omega)
 have HT:Hid (Tr w∧1≤k∧k≤32):=⟨ht,k1,k2⟩
 have HR:Hid (RdS w (some ⟨b,off,none⟩) b off (m+1) ss):=hr
 have HQ:Hid (bagL (clk k) (ss.drop 0)=r):=hq
 have hm40:(m:Int)≤100:=by omega
 obtain ⟨d0,hd0⟩ : ∃ d0,ss.getD m ByteArray.empty=d0:=⟨_,rfl⟩
 rw [hd0] at cm
 have HL2:Hid (bagL (clk k) (ss.drop m)=d0):=by rw [← hd0]; exact HL
 clear hd0 HL ht hr hq hsz hlen k1 k2
 go_enter Tryz.func137,Tryz.ntmps137
 go_wp2
 go_loopg [5,6] m (fun g x i wr => ∃ (j:Nat) (d:ByteArray),j=g∧x = .string d∧i = .int .i64 ((j:Int) - 1)∧j≤m∧Hid (bagL (clk k) (ss.drop j)=d)∧Below w.heap.size w wr)
 case atStart =>
  go_light
  exact ⟨m,d0,rfl,rfl,by go_num,Nat.le_refl _,HL2,Below.refl _ _⟩
 case round =>
  obtain ⟨j,d,hg,rfl,rfl,hj,HE,hb⟩:=hrel
  subst hg
  cases j with
  | zero =>
   have hz : ¬ ((0:Int) ≤ -1):=by decide
   rw [show ((0:Nat):Int) - 1 = -1 from rfl]
   have HF:Hid (d=r):=HE.out.symm.trans HQ.out
   clear HE HN HQ HM HD HR HT cm
   obtain rfl:=HF.out
   go_wp2
   go_ret
   exact ⟨rfl,hb⟩
  | succ j =>
   have e1:((j+1:Nat):Int) - 1=(j:Int):=by omega
   have hz:(0:Int)≤(j:Int):=by omega
   have hz2:(j:Int)<(m:Int)+1:=by omega
   have hjm:j<m:=by omega
   have cj:=(HR.out.next hb (Nat.le_refl _)).at (k:=j) (by omega)
   have z1:=HM.out j (by omega)
   have z2:=HD.out (j+1)
   have hn:=HN.out j hjm
   rw [HE.out] at z2 hn
   generalize ss.getD j ByteArray.empty=p at *
   obtain ⟨t,ht⟩ : ∃ t,bagT p d=t:=⟨_,rfl⟩
   have n2:=s2 p d
   have zt:=bagT_size p d
   rw [ht] at zt n2
   rw [ht] at hn
   have hq1 : ¬ (9223372036854775807<1+p.size):=by omega
   have hq2 : ¬ (9223372036854775807<1+p.size+d.size):=by omega
   obtain ⟨d',hd'⟩ : ∃ d',dg (clk k) t=d':=⟨_,rfl⟩
   have HO:Hid (∀ W,Below w.heap.size w W→Calls Tryz.prog 87 #[.int .i64 k,.string t] W fun e w'=>e = .returned (.string d')∧Below W.heap.size W w'):=fun W hb=>refH_any W (HT.out.1.next hb) k HT.out.2.1 HT.out.2.2 t (by omega) d' hd'
   have HE2:Hid (bagL (clk k) (ss.drop j)=d'):=hn.trans hd'
   rw [e1]
   clear HE hn hd' ht zt z1 z2 e1 cm HL2
   go_wp2_with (go_at_call 87; with_reducible refine (HO.out _ hb).mono ?_; rintro e w2 ⟨rfl,hb2⟩; replace hb:=bnext hb hb2; clear hb2)
   go_roundg j
   case rel =>
    go_light
    exact ⟨j,d',rfl,rfl,by go_num,by omega,HE2.out,hb⟩
   case measure=>go_light; omega
theorem tl_nb (n:Nat):tl (n:Int) 8=nbL n 8:=by
 have h : ∀ j,(n:Int) / 256^j % 256=((n / 256^j % 256:Nat):Int):=fun j=>by
  rw [show (256:Int)^j=((256^j:Nat):Int) by simp]
  omega
 simp only [tl,h]
 rfl
theorem root_text (n:Nat) (d:ByteArray):((⟨#[3]⟩:ByteArray)++strB (nbL n 8))++d=rootT n d:=by
 rw [rootT,rootH,← strB_cons]
 rfl
set_option maxRecDepth 100000 in
theorem refcommit_any (w:World) (ht:Tr w) (k:Int) (k1:1≤k) (k2:k≤32) (n:Nat) (hn:n<18446744073709551616) (ao:Option Addr) (b off len cap:Nat) (ss:List ByteArray) (hr:RdS w ao b off len ss) (hsz : ∀ s∈ss,s.size≤1000) (hlen:0<len) (hmx:len≤100) (r:ByteArray) (hq:dg (clk k) (rootT n (bagL (clk k) ss))=r) :
  Calls Tryz.prog 90 #[.int .i64 k,.int .u64 (n:Int),.slice ao len cap] w fun e w'=>e = .returned (.agg #[.int .u64 (n:Int),.string r])∧Below w.heap.size w w':=by
 obtain ⟨w0,hw0⟩ : ∃ w0,w.alloc (.cells #[.int .u64 0,.string ⟨#[]⟩] 32)=w0:=⟨_,rfl⟩
 have hb0:Below w.heap.size w w0:=by rw [← hw0]; exact bal (Below.refl _ _) _
 have hR0:Rt w0 w.heap.size 0 ⟨#[]⟩:=by rw [← hw0]; exact rt_new w 0 ⟨#[]⟩ 32
 obtain ⟨bg,hbg⟩ : ∃ bg,bagL (clk k) ss=bg:=⟨_,rfl⟩
 have zbg:bg.size≤1000:=by rw [← hbg]; exact bagL_size (clk_le k) (by decide) _ hsz
 have HBi:Hid (∀ W,Calls Tryz.prog 136 #[.int .u64 (n:Int),.int .i64 8] W fun e w'=>e = .returned (.string (strB (nbL n 8)))∧Below W.heap.size W w'):=fun W=>by
  have:=big8 (n:Int) (by omega) (by omega) W
  rw [tl_nb] at this
  exact this
 have HBg:Hid (∀ W,Below w.heap.size w W→Calls Tryz.prog 137 #[.int .i64 k,.slice ao len cap] W fun e w'=>e = .returned (.string bg)∧Below W.heap.size W w'):=fun W hb=>refbag_any W (ht.next hb) k k1 k2 ao b off len cap ss (hr.next hb (Nat.le_refl _)) hsz hlen hmx bg hbg
 rw [hbg] at hq
 obtain ⟨nb,hnb⟩ : ∃ nb,strB (nbL n 8)=nb:=⟨_,rfl⟩
 have znb:nb.size=8:=by rw [← hnb,strB_size,nbL_len]
 have htx:=root_text n bg
 rw [hnb] at htx HBi
 obtain ⟨t,htt⟩ : ∃ t,rootT n bg=t:=⟨_,rfl⟩
 have zt:t.size=9+bg.size:=by rw [← htt,rootT_size]
 rw [htt] at htx hq
 have hq1 : ¬ (9223372036854775807<1+nb.size):=by omega
 have hq2 : ¬ (9223372036854775807<1+nb.size+bg.size):=by omega
 have HH:Hid (∀ W,Below w.heap.size w W→Calls Tryz.prog 87 #[.int .i64 k,.string t] W fun e w'=>e = .returned (.string r)∧Below W.heap.size W w'):=fun W hb=>refH_any W (ht.next hb) k k1 k2 t (by omega) r hq
 have HR:=hide hR0
 clear ht k1 k2 hr hsz hlen hmx hq hbg zbg hnb htt zt hn hR0 znb
 go_enter Tryz.func90,Tryz.ntmps90
 go_upto_region 1 with (fail)
 try rw [hw0]
 clear hw0
 go_wp2_with (first
  | (go_at_call 136; with_reducible refine (HBi.out _).mono ?_; rintro e w1 ⟨rfl,hb1⟩)
  | (go_at_call 137; with_reducible refine (HBg.out _ (bnext hb0 hb1)).mono ?_; rintro e w2 ⟨rfl,hb2⟩)
  | (go_at_call 87; with_reducible refine (HH.out _ (bnext (bnext hb0 hb1) hb2)).mono ?_; rintro e w3 ⟨rfl,hb3⟩; have hR3:=HR.out.below (bnext hb1 (bnext hb2 hb3)) (World.block_lt_of_cell? w0 _ HR.out.c0); have k0:=hR3.c0; have k1:=hR3.c1; have f0:=hR3.f0; have f1:=hR3.f1))
 obtain ⟨s0,s1,hch⟩:=rt_put hR3 (n:Int) r
 refine bodyPost_ret (v := .agg #[.int .u64 (n:Int),.string r]) (by simp [results,Tryz.results90,go_sem,s0,s1]) rfl ⟨rfl,?_⟩
 exact (bnext (bnext (bnext hb0 hb1) hb2) hb3).trans (hch.below (by rintro b rfl; exact Nat.le_refl _))
end Go.Proofs.YtipcenbndhnnhaaGreatDoor
