/- Own work. -/
import Derived.Test.YtoblgjledefdbaaGreatDoorQa38
namespace Go.Proofs.YtoblgjledefdbaaGreatDoor
open Go.RowKit
open Cv (Chain)
attribute [local go_sem ↓] Go.wp_at_zero Go.wp_at_succ
theorem undrew {X w1:World} (h:Below X.drew.heap.size X.drew w1):Below X.heap.size X w1:=⟨h.os,h.tape,h.output,h.size,h.block⟩
theorem redrew {B:Nat} {X w1:World} (h:Below B X w1):Below B X w1.drew:=⟨h.os,h.tape,h.output,h.size,h.block⟩
set_option maxRecDepth 100000 in
set_option maxHeartbeats 4000000 in
theorem numbers_any (w:World) (a b old size:Nat) (sa:Option Addr) (sb so sc:Nat) (S:List Nat) (D:List ByteArray) (d:Value) (c:Nat) (rs:RdU w sa sb so S.length S) (ho:CntOk a b old size S c) :
  Calls Tryz.prog 219 #[pv6 a b old size (.slice sa S.length sc) d] w fun e w'=>e = .returned (.string ⟨(hd ⟨a,b,old,size,S,D⟩).toArray⟩)∧Below w.heap.size w w':=by
 obtain ⟨W,hW,h6,hbw,hz2⟩:=box6 w (.int .i64 (a:Int)) (.int .i64 (b:Int)) (.int .u64 (old:Int)) (.int .u64 (size:Int)) (.slice sa S.length sc) d
 obtain ⟨e0,e1,e2,e3,e4,e5⟩:=h6.cells
 have i1:=ho.kd1
 have i2:=ho.kd3
 have i3:=ho.k1
 have i4:=ho.k32
 have i5:=ho.hsz
 have i6:=ho.hold
 have i7:=ho.len
 have ha:a<256:=by omega
 have hb:b<256:=by omega
 have HN:=fun W'=>num_any W' size (by omega)
 have ea:IntKind.u8.wrap (a:Int)=(a:Int):=by rw [IntKind.wrap_u8]; omega
 have eb:IntKind.u8.wrap (b:Int)=(b:Int):=by rw [IntKind.wrap_u8]; omega
 have ht:=fun W'=>two_bytes W' a b ha hb
 have ht1:=fun (W':World)=>two_at (W:=(W'.alloc (.cells #[.int .u8 (a:Int),.int .u8 (b:Int)] 5)).drew) ha hb (heap_alloc_new W' _)
 have HA:Hid (∀ w1,Below (W.alloc (.cells #[.int .u8 (a:Int),.int .u8 (b:Int)] 5)).heap.size (W.alloc (.cells #[.int .u8 (a:Int),.int .u8 (b:Int)] 5)) w1→(convert 127 9 (.slice (some ⟨W.heap.size,0,none⟩) 2 2)).run Tryz.prog w1 = .ok (.string ⟨[UInt8.ofNat a,UInt8.ofNat b].toArray⟩) w1):=fun w1 hb1=>two_at ha hb ((hb1.block _ (by simp)).trans (heap_alloc_new W _))
 have HX:Hid (∀ w1,Below W.heap.size W w1→Six w1 w.heap.size (.int .i64 (a:Int)) (.int .i64 (b:Int)) (.int .u64 (old:Int)) (.int .u64 (size:Int)) (.slice sa S.length sc) d):=fun w1 h=>h6.next h
 have hne : ¬ w.heap.size=W.heap.size:=by omega
 obtain ⟨n0,n1,n2,n3,n4,n5⟩:=(h6.next (bal (Below.refl _ _) (.cells #[.int .u8 (a:Int),.int .u8 (b:Int)] 5))).cells
 have hnl:=num_len (n:=size) (by omega)
 have HRS:Hid (∀ F,Below W.heap.size W F→RdU F sa sb so S.length S∧Below w.heap.size w F):=fun F hF=>⟨rs.next (bnext hbw hF),bnext hbw hF⟩
 have HO:=hideC ho
 obtain ⟨t1,ht1e⟩ : ∃ t1,(⟨[UInt8.ofNat a,UInt8.ofNat b].toArray⟩:ByteArray)=t1:=⟨_,rfl⟩
 obtain ⟨t2,ht2e⟩ : ∃ t2,(⟨(num size).toArray⟩:ByteArray)=t2:=⟨_,rfl⟩
 have hs1:(t1.size:Int)≤2:=by rw [← ht1e]; simp [ByteArray.size]
 have hs2:(t2.size:Int)≤10:=by rw [← ht2e]; simp [ByteArray.size]; omega
 have HT:Hid (∀ l,l=mid ⟨a,b,old,size,S,D⟩→t1++t2++(⟨l.toArray⟩:ByteArray)=⟨(hd ⟨a,b,old,size,S,D⟩).toArray⟩):=fun l hl=>by
  rw [← ht1e,← ht2e,str_add,str_add,hl]
  simp [hd]
 rw [ht1e] at HA
 simp only [ht1e] at ht ht1
 simp only [ht2e] at HN
 have HI:Hid ((a=1∨a=2∨a=3)∧size≤1099511627776∧old≤size):=⟨by omega,i5,i6⟩
 clear h6 hbw ha hb hz2 hnl ht1e ht2e ho rs i1 i2 i3 i4 i5 i6 i7
 go_enter Tryz.func219,Tryz.ntmps219
 go_upto_region 1 with (fail)
 try rw [hW]
 clear hW
 rename_i K hK
 have HKK:Hid (∀ F g,Below W.heap.size W F→K { tmps:=#[pv6 (a:Int) (b:Int) old size (.slice sa S.length sc) d,.pointer (some ⟨w.heap.size,0,none⟩),.string ⟨#[]⟩,.string (t1++t2),.pointer (some ⟨w.heap.size,0,none⟩),.int .i64 (a:Int),.int .u8 (a:Int),.pointer (some ⟨w.heap.size,1,none⟩),.int .i64 (b:Int),.int .u8 (b:Int),.slice (some ⟨g,0,none⟩) 2 2,.string t1,.pointer (some ⟨w.heap.size,3,none⟩),.int .u64 (size:Int),.string t2,.string (t1++t2),undef,undef,undef,undef,undef,undef,undef,undef,undef,undef,undef,undef,undef,undef,undef,undef,undef,undef,undef,undef,undef,undef,undef],defers:=[] } F):=by
  intro F g hF
  refine hK _ _ ?_
  obtain ⟨k0,k1,k2,k3,k4,k5⟩:=(HX.out _ hF).cells
  obtain ⟨RF,BF⟩:=HRS.out _ hF
  have HB:=hideC BF
  clear n0 n1 n2 n3 n4 n5 e0 e1 e2 e3 e4 e5 ht ht1 HA HN hF hK hne
  rcases HI.out.1 with h | h | h
  ·have hb1:((a:Int) == 1)=true:=beq_iff_eq.2 (by omega)
   obtain ⟨hl,ho⟩:=HO.out.one (by omega)
   obtain rfl:=RF.ptr (by omega)
   have hc:=RF.at (j:=0) (by omega)
   rw [Nat.add_zero] at hc
   have h0:(0:Int)<(S.length:Int):=by omega
   have h0':0<S.length:=by omega
   have hlt:=(chain_at HO.out.chain 0 (by omega)).2
   have HM:=fun W'=>num_any W' (S.getD 0 0) (by have:=HI.out; omega)
   have hnl:=num_len (n:=S.getD 0 0) (by have:=HI.out; omega)
   have HT2:Hid (t1++t2++(⟨(num (S.getD 0 0)).toArray⟩:ByteArray)=⟨(hd ⟨a,b,old,size,S,D⟩).toArray⟩):=HT.out _ (by rw [mid,if_pos (show (a:Int)=1 by omega)])
   generalize S.getD 0 0=i at *
   obtain ⟨t3,ht3⟩ : ∃ t3,(⟨(num i).toArray⟩:ByteArray)=t3:=⟨_,rfl⟩
   have hs3:(t3.size:Int)≤10:=by rw [← ht3]; simp [ByteArray.size]; omega
   simp only [ht3] at HM
   rw [ht3] at HT2
   clear h hl ho hlt hnl ht3 RF BF
   go_wp2_with (go_at_call 311; with_reducible refine (HM _).mono ?_; rintro x w3 ⟨rfl,hb3⟩)
   go_ret
   exact ⟨by rw [← HT2.out]; rfl,bnext HB.out hb3⟩
  ·have hb1:((a:Int) == 1)=false:=beq_false_of_ne (by omega)
   have hb2:((a:Int) == 2)=true:=beq_iff_eq.2 (by omega)
   have HM:=laid_any F sa sb so sc S size RF HO.out.chain HI.out.2.1
   have hll:=laidL_le HO.out.chain (by have:=HI.out; omega)
   have hln:=HO.out.len
   have hnl:=num_len (n:=S.length) (by have:=HI.out; omega)
   have HT2:Hid (t1++t2++(⟨(num S.length++laidL 0 S).toArray⟩:ByteArray)=⟨(hd ⟨a,b,old,size,S,D⟩).toArray⟩):=HT.out _ (by rw [mid,if_neg (show ¬ (a:Int)=1 by omega),if_pos (show (a:Int)=2 by omega)])
   obtain ⟨t3,ht3⟩ : ∃ t3,(⟨(num S.length++laidL 0 S).toArray⟩:ByteArray)=t3:=⟨_,rfl⟩
   have hs3:(t3.size:Int)≤35184372088832:=by rw [← ht3]; have:=HI.out; simp [ByteArray.size]; omega
   rw [ht3] at HT2 HM
   clear h hll hln hnl ht3 RF BF
   go_wp2_with (go_at_call 312; with_reducible refine HM.mono ?_; rintro x w3 ⟨rfl,hb3⟩)
   go_ret
   exact ⟨by rw [← HT2.out]; rfl,bnext HB.out hb3⟩
  ·have hb1:((a:Int) == 1)=false:=beq_false_of_ne (by omega)
   have hb2:((a:Int) == 2)=false:=beq_false_of_ne (by omega)
   have HM:=fun W'=>num_any W' old (by have:=HI.out; omega)
   have hnl:=num_len (n:=old) (by have:=HI.out; omega)
   have HT2:Hid (t1++t2++(⟨(num old).toArray⟩:ByteArray)=⟨(hd ⟨a,b,old,size,S,D⟩).toArray⟩):=HT.out _ (by rw [mid,if_neg (show ¬ (a:Int)=1 by omega),if_neg (show ¬ (a:Int)=2 by omega)])
   obtain ⟨t3,ht3⟩ : ∃ t3,(⟨(num old).toArray⟩:ByteArray)=t3:=⟨_,rfl⟩
   have hs3:(t3.size:Int)≤10:=by rw [← ht3]; simp [ByteArray.size]; omega
   simp only [ht3] at HM
   rw [ht3] at HT2
   clear h hnl ht3 RF BF
   go_wp2_with (go_at_call 311; with_reducible refine (HM _).mono ?_; rintro x w3 ⟨rfl,hb3⟩)
   go_ret
   exact ⟨by rw [← HT2.out]; rfl,bnext HB.out hb3⟩
 clear hK HT HI HO HRS
 go_region_with (go_at_call 311; (with_reducible refine (HN _).mono ?_); rintro x w1 ⟨rfl,hb1⟩; (have hb2:Below W.heap.size W w1:=by first | exact hb1 | exact undrew hb1 | exact bnext (bal (Below.refl _ _) _) hb1 | exact bnext (bal (Below.refl _ _) _) (undrew hb1)); (obtain ⟨k0,k1,k2,k3,k4,k5⟩:=(HX.out _ hb2).cells); (first | (have hcv:=HA.out _ (undrew hb1)) | (have hcv:=HA.out _ hb1) | skip))
 all_goals exact HKK.out _ _ (by first | exact hb2 | exact redrew hb2 | exact bal hb2 _ | exact redrew (bal hb2 _) | exact bal (redrew hb2) _ | exact redrew (redrew hb2) | exact redrew (bal (redrew hb2) _))
end Go.Proofs.YtoblgjledefdbaaGreatDoor
namespace Go.Proofs.YtoblgjledefdbaaGreatDoor
open Go.RowKit
attribute [local go_sem ↓] Go.wp_at_zero Go.wp_at_succ
structure RdPC (w:World) (sa:Option Addr) (sb so sc:Nat) (da:Option Addr) (db dO dc:Nat) (P:PV):Prop where
 rs:RdU w sa sb so P.S.length P.S
 rd:RdS w da db dO P.D.length P.D
 old64:P.old<18446744073709551616
 sz64:P.size<18446744073709551616
 mS:P.S.length≤17592186044416
 mD:P.D.length≤8796093022208
 cD:P.D.length≤dc
theorem RdPC.next {w w':World} {sa:Option Addr} {sb so sc:Nat} {da:Option Addr} {db dO dc:Nat} {P:PV} (h:RdPC w sa sb so sc da db dO dc P) (hb:Below w.heap.size w w'):RdPC w' sa sb so sc da db dO dc P :=
 ⟨h.rs.next hb,h.rd.next hb (Nat.le_refl _),h.old64,h.sz64,h.mS,h.mD,h.cD⟩
abbrev pvP (P:PV) (sa:Option Addr) (sc:Nat) (da:Option Addr) (dc:Nat):Value:=pv6 P.kd P.k P.old P.size (.slice sa P.S.length sc) (.slice da P.D.length dc)
theorem well_no {P:PV} {j:Nat} (hj:j<P.D.length) (h:((P.D.getD j ByteArray.empty).size:Int)≠P.k) : ¬ Well P:=fun hw=>h (hw.2 _ (getD_mem hj))
theorem well_all {P:PV} (hc:cnt P.kd P.k P.old P.size P.S=some P.D.length) (h : ∀ j,j<P.D.length→((P.D.getD j ByteArray.empty).size:Int)=P.k):Well P :=
 ⟨hc,fun d hd=>by
  obtain ⟨j,hj,rfl⟩:=List.getElem_of_mem hd
  have:=h j hj
  rwa [List.getD_eq_getElem?_getD,List.getElem?_eq_getElem hj] at this⟩
section
variable (w:World) (sa:Option Addr) (sb so sc:Nat) (da:Option Addr) (db dO dc:Nat) (P:PV)
set_option maxRecDepth 100000 in
set_option maxHeartbeats 1000000 in
theorem well_any (hp:RdPC w sa sb so sc da db dO dc P) :
  Calls Tryz.prog 218 #[pvP P sa sc da dc] w fun e w'=>e = .returned (.bool (decide (Well P)))∧Below w.heap.size w w':=by
 obtain ⟨kd,k,old,size,S,D⟩:=P
 obtain ⟨rs,rd,h1,h2,h3,h4,_⟩:=hp
 simp only at rs rd h1 h2 h3 h4
 show Calls Tryz.prog 218 #[pv6 kd k old size (.slice sa S.length sc) (.slice da D.length dc)] w _
 obtain ⟨W,hW,h6,hb,hz⟩:=box6 w (.int .i64 kd) (.int .i64 k) (.int .u64 (old:Int)) (.int .u64 (size:Int)) (.slice sa S.length sc) (.slice da D.length dc)
 obtain ⟨e0,e1,e2,e3,e4,e5⟩:=h6.cells
 have HC:=count_any W kd k old size sa sb so sc S (.slice da D.length dc) h1 h2 (rs.next hb) (fun _=>h3)
 have HX:Hid (∀ F,Below W.heap.size W F→Six F w.heap.size (.int .i64 kd) (.int .i64 k) (.int .u64 (old:Int)) (.int .u64 (size:Int)) (.slice sa S.length sc) (.slice da D.length dc)∧RdS F da db dO D.length D∧Below w.heap.size w F):=fun F hF=>⟨h6.next hF,rd.next (bnext hb hF) (Nat.le_refl _),bnext hb hF⟩
 have hD9:(D.length:Int)≤8796093022208:=by omega
 have eD:IntKind.u64.wrap (D.length:Int)=(D.length:Int):=by rw [IntKind.wrap_u64]; omega
 clear rs rd h1 h2 h3 h4 h6 hb hz
 rcases hc:cnt kd k old size S with _ | c
 ·have hw:decide (Well ⟨kd,k,old,size,S,D⟩)=false:=decide_eq_false (fun hw=>by have:=hw.1; simp only [hc] at this; cases this)
  rw [hc] at HC
  simp only [cV] at HC
  rw [hw]
  generalize S.length=ms at *
  generalize D.length=md at *
  clear hc hw
  go_enter Tryz.func218,Tryz.ntmps218
  go_wp2_with (go_at_call 310; (try rw [hW]); with_reducible refine HC.mono ?_; rintro x w1 ⟨rfl,hb1⟩; (obtain ⟨q1,q2,q3⟩:=HX.out _ hb1))
  go_ret
  exact ⟨rfl,q3⟩
 ·rw [hc] at HC
  simp only [cV] at HC
  by_cases hcd:c=D.length
  ·subst hcd
   have HCN:=hideC hc
   clear hc
   obtain ⟨m,hm⟩ : ∃ m,D.length=m:=⟨_,rfl⟩
   have HM:=hideC hm
   have HX2:Hid (∀ F,Below W.heap.size W F→Six F w.heap.size (.int .i64 kd) (.int .i64 k) (.int .u64 (old:Int)) (.int .u64 (size:Int)) (.slice sa S.length sc) (.slice da m dc)∧RdS F da db dO m D∧Below w.heap.size w F):=by rw [← hm]; exact HX
   rw [hm] at HC hD9 eD hW e5 ⊢
   clear hm HX
   generalize S.length=ms at *
   go_enter Tryz.func218,Tryz.ntmps218
   go_upto_region 5 with (go_at_call 310; (try rw [hW]); with_reducible refine HC.mono ?_; rintro x w1 ⟨rfl,hb1⟩; (obtain ⟨q1,q2,q3⟩:=HX2.out _ hb1); (obtain ⟨k0,k1,k2,k3,k4,k5⟩:=q1.cells))
   have HQ:Hid (RdS w1 da db dO m D∧Below w.heap.size w w1):=⟨q2,q3⟩
   clear q1 q2 q3 hb1 HC HX2 hW e0 e1 e2 e3 e4 e5
   go_wp2
   go_loopg [6,25] m (fun gg i6 ix wr=>w1=wr ∧ ∃ j:Nat,j≤m∧gg=m - j∧ix = .int .i64 (j:Int)∧Hid (∀ t,t<j→((D.getD t ByteArray.empty).size:Int)=k))
   case atStart =>
    go_light
    exact ⟨rfl,0,Nat.zero_le _,rfl,rfl,fun t ht=>absurd ht (Nat.not_lt_zero _)⟩
   case round =>
    obtain ⟨rfl,j,hj,rfl,rfl,HA⟩:=hrel
    have hj0:(0:Int)≤(j:Int):=Int.natCast_nonneg _
    have hmm:=HM.out
    by_cases hlt:j<m
    ·have hlt':(j:Int)<(m:Int):=by omega
     obtain rfl:=HQ.out.1.ptr (by omega)
     have cj:=HQ.out.1.at (k:=j) hlt
     have hsz:=HQ.out.1.sz _ (getD_mem (ss:=D) (k:=j) (by omega))
     obtain ⟨x,hx⟩ : ∃ x,D.getD j ByteArray.empty=x:=⟨_,rfl⟩
     have HXX:=hideC hx
     rw [hx] at cj hsz
     clear hx
     by_cases hk:(x.size:Int)=k
     ·have HA2:Hid (∀ t,t<j+1→((D.getD t ByteArray.empty).size:Int)=k):=fun t ht=>by
       rcases Nat.lt_or_ge t j with h | h
       ·exact HA.out t h
       ·obtain rfl:t=j:=by omega
        rw [HXX.out]; exact hk
      have hk1:((x.size:Int) != k)=false:=by rw [hk]; simp
      clear hk hmm HA
      go_wp2
      go_roundg (m - (j+1))
      case rel =>
       go_light
       exact ⟨rfl,j+1,hlt,rfl,by go_num,HA2⟩
      case measure=>go_light; omega
     ·have hk1:((x.size:Int) != k)=true:=bne_iff_ne.2 hk
      have HW:Hid (decide (Well ⟨kd,k,old,size,S,D⟩)=false):=decide_eq_false (well_no (j:=j) (by simp only; omega) (by simp only; rw [HXX.out]; exact hk))
      clear hk hmm HA
      go_wp2
      go_ret
      exact ⟨by rw [HW.out]; rfl,HQ.out.2⟩
    ·obtain rfl:j=m:=by omega
     have hlt' : ¬ (j:Int)<(j:Int):=by omega
     have HW:Hid (decide (Well ⟨kd,k,old,size,S,D⟩)=true):=decide_eq_true (well_all (by simp only; exact HCN.out) (fun t ht=>by simp only at ht ⊢; exact HA.out t (by omega)))
     clear hmm HA
     go_wp2
     go_ret
     exact ⟨by rw [HW.out]; rfl,HQ.out.2⟩
  ·have hw:decide (Well ⟨kd,k,old,size,S,D⟩)=false:=decide_eq_false (fun hw=>by have:=hw.1; simp only [hc] at this; cases this; exact hcd rfl)
   rw [hw]
   have hne:((c:Int) != (D.length:Int))=true:=bne_iff_ne.2 (by omega)
   generalize S.length=ms at *
   generalize D.length=md at *
   clear hc hw hcd
   go_enter Tryz.func218,Tryz.ntmps218
   go_wp2_with (go_at_call 310; (try rw [hW]); with_reducible refine HC.mono ?_; rintro x w1 ⟨rfl,hb1⟩; (obtain ⟨q1,q2,q3⟩:=HX.out _ hb1); (obtain ⟨k0,k1,k2,k3,k4,k5⟩:=q1.cells))
   go_ret
   exact ⟨rfl,q3⟩
theorem hd_len {P:PV} {c:Nat} (ho:CntOk P.kd P.k P.old P.size P.S c):(hd P).length≤35184372088832:=by
 have h1:=num_len (n:=P.size) (by have:=ho.hsz; omega)
 have h2:(mid P).length≤11 * 1099511627776+10:=by
  unfold mid
  have hl:=ho.len
  have hz:=ho.hsz
  split
  ·rename_i h
   obtain ⟨g1,g2⟩:=ho.one h
   have:=num_len (n:=P.S.getD 0 0) (by have:=(chain_at ho.chain 0 (by omega)).2; omega)
   omega
  ·split
   ·have:=laidL_le ho.chain (by omega)
    have:=num_len (n:=P.S.length) (by omega)
    rw [List.length_append]
    omega
   ·have:=num_len (n:=P.old) (by have:=ho.hold; omega)
    omega
 rw [hd,List.length_cons,List.length_cons,List.length_append]
 omega
theorem flat_le {P:PV} (h:Well P):(flatC P.D).length≤35184372088832:=by
 have ho:=cnt_ok h.1
 have hk:=ho.k32
 have hk1:=ho.k1
 obtain ⟨b,hb⟩ : ∃ b:Nat,P.k=b:=⟨P.k.toNat,by omega⟩
 have e:(flatC P.D).length=P.D.length * b:=flat_len (fun d hd=>by have:=h.2 d hd; omega)
 have:=ho.hc
 have:P.D.length * b≤1099511627776 * 32:=Nat.mul_le_mul this (by omega)
 omega
set_option maxRecDepth 100000 in
set_option maxHeartbeats 1000000 in
theorem encode_yes (hp:RdPC w sa sb so sc da db dO dc P) (h:Well P) :
  Calls Tryz.prog 131 #[pvP P sa sc da dc] w fun e w'=>e = .returned (.tuple #[.string ⟨(enc P).toArray⟩,.int .i64 0])∧Below w.heap.size w w':=by
 obtain ⟨W,hW,h6,hb,hz⟩:=box6 w (.int .i64 P.kd) (.int .i64 P.k) (.int .u64 (P.old:Int)) (.int .u64 (P.size:Int)) (.slice sa P.S.length sc) (.slice da P.D.length dc)
 obtain ⟨e0,e1,e2,e3,e4,e5⟩:=h6.cells
 have HC:=well_any W sa sb so sc da db dO dc P (hp.next hb)
 rw [decide_eq_true h] at HC
 have ho:=cnt_ok h.1
 have hl1:=hd_len ho
 have hl2:=flat_le h
 obtain ⟨kd,k,old,size,S,D⟩:=P
 simp only at e0 e1 e2 e3 e4 e5 hW ho hl1 hl2
 simp only [pvP] at HC
 show Calls Tryz.prog 131 #[pv6 kd k old size (.slice sa S.length sc) (.slice da D.length dc)] w _
 have i1:=ho.kd1
 have i3:=ho.k1
 obtain ⟨a,rfl⟩ : ∃ a:Nat,kd=a:=⟨kd.toNat,by omega⟩
 obtain ⟨b,rfl⟩ : ∃ b:Nat,k=b:=⟨k.toNat,by omega⟩
 have HX:Hid (∀ F,Below W.heap.size W F→Six F w.heap.size (.int .i64 (a:Int)) (.int .i64 (b:Int)) (.int .u64 (old:Int)) (.int .u64 (size:Int)) (.slice sa S.length sc) (.slice da D.length dc)∧Below w.heap.size w F):=fun F hF=>⟨h6.next hF,bnext hb hF⟩
 have HNum:Hid (∀ F,Below W.heap.size W F→Calls Tryz.prog 219 #[pv6 a b old size (.slice sa S.length sc) (.slice da D.length dc)] F fun e w'=>e = .returned (.string ⟨(hd ⟨a,b,old,size,S,D⟩).toArray⟩)∧Below F.heap.size F w'):=fun F hF=>numbers_any F a b old size sa sb so sc S D (.slice da D.length dc) _ (hp.next (bnext hb hF)).rs ho
 have HJ:Hid (∀ F,Below W.heap.size W F→Calls Tryz.prog 173 #[.slice da D.length dc,.string ByteArray.empty] F fun e w'=>e = .returned (.string ⟨(flatC D).toArray⟩)∧Below F.heap.size F w'):=fun F hF=>join_anyC F da db dO dc D (hp.next (bnext hb hF)).rd hp.cD (by have:=hp.mD; simp only at this; omega) (by omega)
 obtain ⟨t1,ht1⟩ : ∃ t1,(⟨(hd ⟨a,b,old,size,S,D⟩).toArray⟩:ByteArray)=t1:=⟨_,rfl⟩
 obtain ⟨t2,ht2⟩ : ∃ t2,(⟨(flatC D).toArray⟩:ByteArray)=t2:=⟨_,rfl⟩
 have hs1:(t1.size:Int)≤35184372088832:=by rw [← ht1]; simp [ByteArray.size]; omega
 have hs2:(t2.size:Int)≤35184372088832:=by rw [← ht2]; simp [ByteArray.size]; omega
 have HT:Hid (t1++t2=(⟨(enc ⟨a,b,old,size,S,D⟩).toArray⟩:ByteArray)):=by rw [← ht1,← ht2,str_add,enc_hd]; exact rfl
 rw [ht1] at HNum
 rw [ht2] at HJ
 clear hp h h6 hb hz ho hl1 hl2 i1 i3 ht1 ht2
 generalize S.length=ms at *
 generalize D.length=md at *
 go_enter Tryz.func131,Tryz.ntmps131
 go_upto_region 3 with (go_at_call 218; (try rw [hW]); with_reducible refine HC.mono ?_; rintro x w1 ⟨rfl,hb1⟩)
 obtain ⟨q1,q2⟩:=HX.out _ hb1
 obtain ⟨k0,k1,k2,k3,k4,k5⟩:=q1.cells
 clear q1 q2 e0 e1 e2 e3 e4 e5 hW HC
 go_region_with (first
  | (go_at_call 219; (refine (HNum.out _ (by first | exact hb1 | exact redrew hb1)).mono ?_); rintro x w2 ⟨rfl,hb2⟩; (have hw2:Below W.heap.size W w2:=by first | exact bnext hb1 hb2 | exact bnext hb1 (undrew hb2)); (obtain ⟨m0,m1,m2,m3,m4,m5⟩:=(HX.out _ hw2).1.cells))
  | (go_at_call 173; (refine (HJ.out _ (by first | exact hw2 | exact redrew hw2)).mono ?_); rintro x w3 ⟨rfl,hb3⟩; (have hw3:Below W.heap.size W w3:=by first | exact bnext hw2 hb3 | exact bnext hw2 (undrew hb3))))
 all_goals
  go_wp2
  go_ret2
  exact ⟨by rw [← HT.out]; rfl,(HX.out _ (by first | exact hw3 | exact redrew hw3 | exact redrew (redrew hw3))).2⟩
end
section
variable {w W w1:World} {a p:Nat} {U:Nat→Prop} {D D':St.DV} {S S':St.SV} {L L':List ByteArray} {g:Int}
set_option maxRecDepth 100000 in
theorem encoded_yes (w:World) {sa:Option Addr} {sb so sc:Nat} {da:Option Addr} {db dO dc:Nat} {P:PV} (hp:RdPC w sa sb so sc da db dO dc P) (h:Well P) (t:ByteArray) (ht:⟨(enc P).toArray⟩=t) :
  Calls Tryz.prog 77 #[pvP P sa sc da dc,.int .i64 0] w fun e w'=>e = .returned (.tuple #[.string t,.int .i64 0])∧Below w.heap.size w w':=by
 have hb:=bal (Below.refl w.heap.size w) (.cells #[.int .i64 P.kd,.int .i64 P.k,.int .u64 (P.old:Int),.int .u64 (P.size:Int),.slice sa P.S.length sc,.slice da P.D.length dc] 138)
 have HE:Hid (∀ W,Below w.heap.size w W→Calls Tryz.prog 131 #[pvP P sa sc da dc] W fun e w'=>e = .returned (.tuple #[.string t,.int .i64 0])∧Below w.heap.size w w'):=fun W hW=>(encode_yes W sa sb so sc da db dO dc P (hp.next hW) h).mono fun e w' z=>⟨by rw [← ht]; exact z.1,bnext hW z.2⟩
 unfold pvP at HE ⊢
 clear hp h
 go_enter Tryz.func77,Tryz.ntmps77
 go_wp2_with (go_at_call 131; (with_reducible refine (HE.out _ hb).mono ?_); rintro e w1 ⟨rfl,u1⟩)
 go_ret2
 exact ⟨rfl,u1⟩
set_option maxRecDepth 100000 in
theorem rootC_any (w:World) (ht:Tb w) (h:Lg w 1 a p U D S L) (bl bn:Nat) (cl:w.cell? ⟨bl,0,none⟩=some (.pointer (some ⟨a,0,none⟩))) (n:Nat) (cn:w.cell? ⟨bn,0,none⟩=some (.int .u64 (n:Int))) (x:Int) (r:ByteArray) (e0:Int)
  (HR : ∀ W m,Tb W→Frs W m (S.k:Int) L→Calls Tryz.prog 57 #[.pointer (some ⟨m+1,0,none⟩),.int .u64 (n:Int)] W fun e w'=>e = .returned (.tuple #[.agg #[.int .u64 x,.string r],.int .i64 e0])∧Below W.heap.size W w') :
  Calls Tryz.prog 56 #[.pointer (some ⟨bl,0,none⟩),.pointer (some ⟨bn,0,none⟩)] w fun e w'=>e = .returned (.tuple #[.agg #[.int .u64 x,.string r],.int .i64 e0])∧Below w.heap.size w w':=by
 obtain ⟨q,m,r0,vs,hrow,hF,_⟩:=h.row
 obtain ⟨_,_,c3,_,_,_⟩:=rwL_at hrow
 obtain ⟨w1,hw1⟩ : ∃ W,w.alloc (.cells #[.int .u64 0,.string ⟨#[]⟩] 50)=W:=⟨_,rfl⟩
 have u1:Below w.heap.size w w1:=by rw [← hw1]; exact bal (Below.refl _ _) _
 have k1:w1.heap[w.heap.size]? = some (.cells #[.int .u64 0,.string ⟨#[]⟩] 50 (0,0)):=by rw [← hw1]; exact heap_alloc_new w _
 have hz1:=(Array.getElem?_eq_some_iff.1 k1).1
 have ha:=World.block_lt_of_cell? _ _ c3
 have hl:=World.block_lt_of_cell? _ _ cl
 have hn:=World.block_lt_of_cell? _ _ cn
 have HC:Hid (∀ W,Below w1.heap.size w1 W→W.cell? ⟨bl,0,none⟩=some (.pointer (some ⟨a,0,none⟩))∧W.cell? ⟨a,3,none⟩=some (.pointer (some ⟨m+1,0,none⟩))∧W.cell? ⟨bn,0,none⟩=some (.int .u64 (n:Int))):=fun W hW=>⟨((bnext u1 hW).cell (p:=⟨bl,0,none⟩) hl).trans cl,((bnext u1 hW).cell (p:=⟨a,3,none⟩) ha).trans c3,((bnext u1 hW).cell (p:=⟨bn,0,none⟩) hn).trans cn⟩
 have HK:Hid (∀ W,Below w1.heap.size w1 W→W.heap[w.heap.size]? = some (.cells #[.int .u64 0,.string ⟨#[]⟩] 50 (0,0))):=fun W hW=>(hW.block _ hz1).trans k1
 have HRt:Hid (∀ W,Below w1.heap.size w1 W→Calls Tryz.prog 57 #[.pointer (some ⟨m+1,0,none⟩),.int .u64 (n:Int)] W fun e w'=>e = .returned (.tuple #[.agg #[.int .u64 x,.string r],.int .i64 e0])∧Below w1.heap.size w1 w'):=fun W hW=>(HR W m (ht.next (bnext u1 hW)) (hF.next (bnext u1 hW) (Nat.le_refl _))).mono fun e w' z=>⟨z.1,bnext hW z.2⟩
 have HU:=hide u1
 obtain ⟨d1,d2,d3⟩:=HC.out w1 (Below.refl _ _)
 have u:Below w1.heap.size w1 w1.drew:=(Below.refl _ _).drew
 obtain ⟨b0,hb0⟩ : ∃ b,w.heap.size=b:=⟨_,rfl⟩
 have HB0:=hide hb0
 have HW1:=hide hw1
 rw [hb0] at HK
 clear ht h HR hF hrow c3 cl cn ha hl hn k1 hz1 u1 hw1 hb0
 go_enter Tryz.func56,Tryz.ntmps56
 go_upto_region 1 with (fail)
 rw [HW1.out,HB0.out]
 go_region_with (go_at_call 57; (with_reducible refine (HRt.out _ u).mono ?_); rintro e w2 ⟨rfl,u2⟩; have k2:=HK.out _ u2; have e1:w2.cell? ⟨b0,0,none⟩=some (.int .u64 0):=(by rw [cell_of_row w2 _ 0 _ _ (0,0) k2]; rfl); have e2:w2.cell? ⟨b0,1,none⟩=some (.string ⟨#[]⟩):=(by rw [cell_of_row w2 _ 1 _ _ (0,0) k2]; rfl); have e3:=frozen_of_row w2 b0 0 _ _ k2; have e4:=frozen_of_row w2 b0 1 _ _ k2)
 all_goals
  have HZ:Hid (Below w.heap.size w ((w2.setCell ⟨b0,0,none⟩ (.int .u64 x)).setCell ⟨b0,1,none⟩ (.string r))):=by
   have hb:Below w.heap.size w w2:=bnext HU.out u2
   exact (hb.setCell (p:=⟨b0,0,none⟩) (Nat.le_of_eq HB0.out) _).setCell (p:=⟨b0,1,none⟩) (Nat.le_of_eq HB0.out) _
  have q:=heap_setCell_same _ b0 1 _ _ (.string r) (heap_setCell_same w2 b0 0 _ _ (.int .u64 x) k2)
  have q0:=cell_of_row _ b0 0 _ _ (0,0) q
  have q1:=cell_of_row _ b0 1 _ _ (0,0) q
  simp at q0 q1
  clear k2 q HK HC HRt d1 d2 d3 u2
  go_wp2
  generalize (w2.setCell ⟨b0,0,none⟩ (.int .u64 x)).setCell ⟨b0,1,none⟩ (.string r)=W9 at *
  exact bodyPost_ret (v := .tuple #[.agg #[.int .u64 x,.string r],.int .i64 e0]) (by simp [results,Tryz.results56,go_sem,q0,q1]) rfl ⟨rfl,HZ.out⟩
set_option maxRecDepth 100000 in
theorem lroot_of (w:World) (ht:Tb w) (h:Lg w 0 a p U D S L) (n:Nat) (x:Int) (r:ByteArray) (e0:Int)
  (HR : ∀ W m,Tb W→Frs W m (S.k:Int) L→Calls Tryz.prog 57 #[.pointer (some ⟨m+1,0,none⟩),.int .u64 (n:Int)] W fun e w'=>e = .returned (.tuple #[.agg #[.int .u64 x,.string r],.int .i64 e0])∧Below W.heap.size W w') :
  Calls Tryz.prog 20 #[.pointer (some ⟨a,0,none⟩),.int .u64 (n:Int)] w fun e w'=>e = .returned (.tuple #[.agg #[.int .u64 x,.string r],.int .i64 e0])∧Below w.heap.size w w':=by
 obtain ⟨w1,hw1⟩ : ∃ W,((w.alloc (.cells #[.pointer (some ⟨a,0,none⟩)] 27)).alloc (.cells #[.int .u64 (n:Int)] 48)).alloc (.cells #[.int .u64 0,.string ⟨#[]⟩] 50)=W:=⟨_,rfl⟩
 have u1:Below w.heap.size w w1:=by rw [← hw1]; exact bal (bal (bal (Below.refl _ _) _) _) _
 have k0:w1.heap[w.heap.size]? = some (.cells #[.pointer (some ⟨a,0,none⟩)] 27 (0,0)):=by rw [← hw1,(MapKept.heap_alloc _ _).2 _ (by simp; omega)]; exact St.new0 _ _ _
 have k1:w1.heap[w.heap.size+1]? = some (.cells #[.int .u64 (n:Int)] 48 (0,0)):=by rw [← hw1,(MapKept.heap_alloc _ _).2 _ (by simp)]; exact St.new2 _ _ _
 have k2:w1.heap[w.heap.size+2]? = some (.cells #[.int .u64 0,.string ⟨#[]⟩] 50 (0,0)):=by
  rw [← hw1]
  have:=heap_alloc_new ((w.alloc (.cells #[.pointer (some ⟨a,0,none⟩)] 27)).alloc (.cells #[.int .u64 (n:Int)] 48)) (.cells #[.int .u64 0,.string ⟨#[]⟩] 50)
  simpa using this
 have hz2:=(Array.getElem?_eq_some_iff.1 k2).1
 have b0:w1.cell? ⟨w.heap.size,0,none⟩=some (.pointer (some ⟨a,0,none⟩)):=by rw [cell_of_row _ _ 0 _ _ (0,0) k0]; rfl
 have b1:w1.cell? ⟨w.heap.size+1,0,none⟩=some (.int .u64 (n:Int)):=by rw [cell_of_row _ _ 0 _ _ (0,0) k1]; rfl
 have h1:=h.next u1
 obtain ⟨q,m,r0,vs,hrow,_⟩:=h1.row
 have hax:=h.lt h.own
 have HW:Hid (Calls Tryz.prog 55 #[.pointer (some ⟨a,0,none⟩),.func (.func 56) #[] #[.pointer (some ⟨w.heap.size,0,none⟩),.pointer (some ⟨w.heap.size+1,0,none⟩)]] w1 fun e w'=>e = .returned (.tuple #[.agg #[.int .u64 x,.string r],.int .i64 e0])∧Below w1.heap.size w1 w') :=
  wholeR_any w1 a _ _ hrow _ _ _ fun W hW=>rootC_any W ((ht.next u1).lkd h1 hW) (h1.lkd hW) w.heap.size (w.heap.size+1) (hW.cell b0 (by omega)) n (hW.cell b1 (by omega)) x r e0 HR
 have HK:Hid (∀ W,Below w1.heap.size w1 W→W.heap[w.heap.size+2]? = some (.cells #[.int .u64 0,.string ⟨#[]⟩] 50 (0,0))):=fun W hW=>(hW.block _ hz2).trans k2
 have HU:=hide u1
 clear ht h h1 hrow u1 k0 k1 k2 hz2 b1 hax HR
 have HW1:=hide hw1
 clear hw1
 go_enter Tryz.func20,Tryz.ntmps20
 go_upto_region 1 with (fail)
 rw [HW1.out]
 go_wp2_with (go_at_call 55; (with_reducible refine HW.out.mono ?_); rintro e w2 ⟨rfl,u2⟩; have k2:=HK.out _ u2; have e1:w2.cell? ⟨w.heap.size+2,0,none⟩=some (.int .u64 0):=(by rw [cell_of_row w2 _ 0 _ _ (0,0) k2]; rfl); have e2:w2.cell? ⟨w.heap.size+2,1,none⟩=some (.string ⟨#[]⟩):=(by rw [cell_of_row w2 _ 1 _ _ (0,0) k2]; rfl); have e3:=frozen_of_row w2 (w.heap.size+2) 0 _ _ k2; have e4:=frozen_of_row w2 (w.heap.size+2) 1 _ _ k2)
 have HZ:Hid (Below w.heap.size w ((w2.setCell ⟨w.heap.size+2,0,none⟩ (.int .u64 x)).setCell ⟨w.heap.size+2,1,none⟩ (.string r))):=by
  have hb:Below w.heap.size w w2:=bnext HU.out u2
  exact (hb.setCell (p:=⟨w.heap.size+2,0,none⟩) (Nat.le_add_right _ _) _).setCell (p:=⟨w.heap.size+2,1,none⟩) (Nat.le_add_right _ _) _
 have q:=heap_setCell_same _ (w.heap.size+2) 1 _ _ (.string r) (heap_setCell_same w2 (w.heap.size+2) 0 _ _ (.int .u64 x) k2)
 have q0:=cell_of_row _ (w.heap.size+2) 0 _ _ (0,0) q
 have q1:=cell_of_row _ (w.heap.size+2) 1 _ _ (0,0) q
 simp at q0 q1
 generalize (w2.setCell ⟨w.heap.size+2,0,none⟩ (.int .u64 x)).setCell ⟨w.heap.size+2,1,none⟩ (.string r)=W9 at *
 exact bodyPost_ret (v := .tuple #[.agg #[.int .u64 x,.string r],.int .i64 e0]) (by simp [results,Tryz.results20,go_sem,q0,q1]) rfl ⟨rfl,HZ.out⟩
theorem lroot_ok (w:World) (ht:Tb w) (h:Lg w 0 a p U D S L) (n:Nat) (hn:n≤L.length) (r:ByteArray) (hq:rtD S.k L n=r) :
  Calls Tryz.prog 20 #[.pointer (some ⟨a,0,none⟩),.int .u64 (n:Int)] w fun e w'=>e = .returned (.tuple #[.agg #[.int .u64 (n:Int),.string r],.int .i64 0])∧Below w.heap.size w w' :=
 lroot_of w ht h n n r 0 fun W m hT hF=>froot_ok W hT m S.k L hF n hn r (by
  have:=clk_of hF.k1 hF.k2
  rw [show clk (S.k:Int)=S.k by omega]; exact hq)
end
def PrQ2 (w:World) (t:ByteArray) (e1:Int) (e:Ending) (w':World):Prop :=
 ∃ v e2,e = .returned (.tuple #[v,.int .i64 e2])∧Below w.heap.size w w' ∧ ∀ W',Below w'.heap.size w' W'→Calls Tryz.prog 77 #[v,.int .i64 e2] W' fun e w''=>e = .returned (.tuple #[.string t,.int .i64 e1])∧Below W'.heap.size W' w''
section
variable {a p:Nat} {U:Nat→Prop} {D:St.DV} {S:St.SV} {L:List ByteArray}
set_option maxRecDepth 100000 in
theorem prbC_any (w:World) (ht:Tb w) (h:Lg w 1 a p U D S L) (bl b1 b2:Nat) (x1:Int) (sa:Option Addr) (sl sc:Nat) (cl:w.cell? ⟨bl,0,none⟩=some (.pointer (some ⟨a,0,none⟩))) (c1:w.cell? ⟨b1,0,none⟩=some (.int .u64 x1)) (c2:w.cell? ⟨b2,0,none⟩=some (.slice sa sl sc)) (t:ByteArray) (e1:Int)
  (HP : ∀ W m,Tb W→Below w.heap.size w W→Frs W m (S.k:Int) L→Calls Tryz.prog 82 #[.pointer (some ⟨m+1,0,none⟩),.int .u64 x1,.slice sa sl sc] W (PrQ2 W t e1)) :
  Calls Tryz.prog 81 #[.pointer (some ⟨bl,0,none⟩),.pointer (some ⟨b1,0,none⟩),.pointer (some ⟨b2,0,none⟩)] w fun e w'=>e = .returned (.tuple #[.string t,.int .i64 e1])∧Below w.heap.size w w':=by
 obtain ⟨q,m,r0,vs,hrow,hF,_⟩:=h.row
 obtain ⟨_,_,c3,_,_,_⟩:=rwL_at hrow
 have ha:=World.block_lt_of_cell? _ _ c3
 have hl:=World.block_lt_of_cell? _ _ cl
 have h1:=World.block_lt_of_cell? _ _ c1
 have h2:=World.block_lt_of_cell? _ _ c2
 have HC:Hid (∀ W,Below w.heap.size w W→W.cell? ⟨bl,0,none⟩=some (.pointer (some ⟨a,0,none⟩))∧W.cell? ⟨a,3,none⟩=some (.pointer (some ⟨m+1,0,none⟩))∧W.cell? ⟨b1,0,none⟩=some (.int .u64 x1)∧W.cell? ⟨b2,0,none⟩=some (.slice sa sl sc)):=fun W hW=>⟨(hW.cell (p:=⟨bl,0,none⟩) hl).trans cl,(hW.cell (p:=⟨a,3,none⟩) ha).trans c3,(hW.cell (p:=⟨b1,0,none⟩) h1).trans c1,(hW.cell (p:=⟨b2,0,none⟩) h2).trans c2⟩
 have HPr:Hid (∀ W,Below w.heap.size w W→Calls Tryz.prog 82 #[.pointer (some ⟨m+1,0,none⟩),.int .u64 x1,.slice sa sl sc] W fun e w' => ∃ v e2,e = .returned (.tuple #[v,.int .i64 e2])∧Below w.heap.size w w'∧Hid (∀ W',Below w'.heap.size w' W'→Calls Tryz.prog 77 #[v,.int .i64 e2] W' fun e w''=>e = .returned (.tuple #[.string t,.int .i64 e1])∧Below w.heap.size w w'')):=fun W hW=>(HP W m (ht.next hW) hW (hF.next hW (Nat.le_refl _))).mono fun e w' z=>by
  obtain ⟨v,e2,z1,z2,z3⟩:=z
  exact ⟨v,e2,z1,bnext hW z2,fun W' hW'=>(z3 W' hW').mono fun e w'' y=>⟨y.1,bnext (bnext (bnext hW z2) hW') y.2⟩⟩
 obtain ⟨d1,d2,d3,d4⟩:=HC.out w (Below.refl _ _)
 have u:Below w.heap.size w w.drew:=(Below.refl _ _).drew
 clear ht h HP hF hrow c3 cl c1 c2 ha hl h1 h2
 go_enter Tryz.func81,Tryz.ntmps81
 go_upto_region 1 with (fail)
 go_region_held3 (fun Z=>Z.cell? ⟨bl,0,none⟩=some (.pointer (some ⟨a,0,none⟩))∧Z.cell? ⟨a,3,none⟩=some (.pointer (some ⟨m+1,0,none⟩))∧Z.cell? ⟨b1,0,none⟩=some (.int .u64 x1)∧Z.cell? ⟨b2,0,none⟩=some (.slice sa sl sc)) (first | assumption | (with_reducible exact HC.out _ u)) (first
  | (go_at_call 82; (with_reducible refine (HPr.out _ u).mono ?_); rintro e w1 ⟨v,e2,rfl,u,HE⟩)
  | (go_at_call 77; (with_reducible refine (HE.out _ (Below.refl _ _)).mono ?_); rintro e w2 ⟨rfl,u⟩))
 all_goals
  go_wp2
  go_ret2
  exact ⟨rfl,u⟩
set_option maxRecDepth 100000 in
theorem lb_of (w:World) (ht:Tb w) (h:Lg w 0 a p U D S L) (x1:Int) (sa:Option Addr) (sl sc:Nat) (t:ByteArray) (e1:Int)
  (HP : ∀ W m,Tb W→(∀ b,b<w.heap.size→b≠a→W.heap[b]? = w.heap[b]?)→Frs W m (S.k:Int) L→Calls Tryz.prog 82 #[.pointer (some ⟨m+1,0,none⟩),.int .u64 x1,.slice sa sl sc] W (PrQ2 W t e1)) :
  Calls Tryz.prog 38 #[.pointer (some ⟨a,0,none⟩),.int .u64 x1,.slice sa sl sc] w fun e w'=>e = .returned (.tuple #[.string t,.int .i64 e1])∧Below w.heap.size w w':=by
 obtain ⟨w1,hw1⟩ : ∃ W,((w.alloc (.cells #[.pointer (some ⟨a,0,none⟩)] 27)).alloc (.cells #[.int .u64 x1] 48)).alloc (.cells #[.slice sa sl sc] 66)=W:=⟨_,rfl⟩
 have u1:Below w.heap.size w w1:=by rw [← hw1]; exact bal (bal (bal (Below.refl _ _) _) _) _
 have k0:w1.heap[w.heap.size]? = some (.cells #[.pointer (some ⟨a,0,none⟩)] 27 (0,0)):=by rw [← hw1,(MapKept.heap_alloc _ _).2 _ (by simp; omega)]; exact St.new0 _ _ _
 have k1:w1.heap[w.heap.size+1]? = some (.cells #[.int .u64 x1] 48 (0,0)):=by rw [← hw1,(MapKept.heap_alloc _ _).2 _ (by simp)]; exact St.new2 _ _ _
 have k2:w1.heap[w.heap.size+2]? = some (.cells #[.slice sa sl sc] 66 (0,0)):=by
  rw [← hw1]
  have:=heap_alloc_new ((w.alloc (.cells #[.pointer (some ⟨a,0,none⟩)] 27)).alloc (.cells #[.int .u64 x1] 48)) (.cells #[.slice sa sl sc] 66)
  simpa using this
 have b0:w1.cell? ⟨w.heap.size,0,none⟩=some (.pointer (some ⟨a,0,none⟩)):=by rw [cell_of_row _ _ 0 _ _ (0,0) k0]; rfl
 have b1:w1.cell? ⟨w.heap.size+1,0,none⟩=some (.int .u64 x1):=by rw [cell_of_row _ _ 0 _ _ (0,0) k1]; rfl
 have b2:w1.cell? ⟨w.heap.size+2,0,none⟩=some (.slice sa sl sc):=by rw [cell_of_row _ _ 0 _ _ (0,0) k2]; rfl
 have h1:=h.next u1
 obtain ⟨q,m,r0,vs,hrow,_⟩:=h1.row
 have hax:=h.lt h.own
 have HW:Hid (Calls Tryz.prog 75 #[.pointer (some ⟨a,0,none⟩),.func (.func 81) #[] #[.pointer (some ⟨w.heap.size,0,none⟩),.pointer (some ⟨w.heap.size+1,0,none⟩),.pointer (some ⟨w.heap.size+2,0,none⟩)]] w1 fun e w'=>e = .returned (.tuple #[.string t,.int .i64 e1])∧Below w.heap.size w w') :=
  (wholeS_any w1 a _ _ _ (.inr (.inr (.inl rfl))) hrow _ _ fun W hW=>prbC_any W ((ht.next u1).lkd h1 hW) (h1.lkd hW) w.heap.size (w.heap.size+1) (w.heap.size+2) x1 sa sl sc (hW.cell b0 (by omega)) (hW.cell b1 (by omega)) (hW.cell b2 (by omega)) t e1 fun W2 m2 hT hb hF=>HP W2 m2 hT (fun b hb1 hb2=>(hb.block b (Nat.lt_of_lt_of_le (Nat.lt_of_lt_of_le hb1 u1.size) hW.size)).trans ((hW.oth b (Nat.lt_of_lt_of_le hb1 u1.size) hb2).trans (u1.block b hb1))) hF).mono fun e w' z=>⟨z.1,bnext u1 z.2⟩
 clear ht h h1 hrow u1 k0 k1 k2 b1 b2 hax HP
 have HW1:=hide hw1
 clear hw1
 go_enter Tryz.func38,Tryz.ntmps38
 go_upto_region 1 with (fail)
 rw [HW1.out]
 go_wp2_with (go_at_call 75; (with_reducible refine HW.out.mono ?_); rintro e w2 ⟨rfl,t2⟩)
 go_ret2
 exact ⟨rfl,t2⟩
end
end Go.Proofs.YtoblgjledefdbaaGreatDoor
