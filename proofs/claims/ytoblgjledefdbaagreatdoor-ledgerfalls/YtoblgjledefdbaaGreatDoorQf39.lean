/- Own work. -/
import Derived.BigRegion
import Derived.Lib.BufferMore
import Derived.Test.YtoblgjledefdbaaGreatDoorProg
import Derived.Below
import Derived.WalkKit
import Derived.WalkSpells
import Derived.KernelRfl
import Derived.Deep.RegionHeld3
import Derived.Deep.RegionWith
import Derived.BigQuiet
import Derived.Test.YtoblgjledefdbaaGreatDoorQf38
namespace Go.Proofs.YtoblgjledefdbaaGreatDoor
open Go.RowKit
attribute [local go_sem ↓] Go.wp_at_zero Go.wp_at_succ
structure RdPC (w:World) (sa:Option Addr) (sb so sc:Nat) (da:Option Addr) (db dO dc:Nat) (P:PV):Prop where
 rs:RdU w sa sb so P.S.length P.S
 rd:RdS w da db dO P.D.length P.D
 old64:P.old<18446744073709551616
 sz64:P.size<18446744073709551616
 mS:P.S.length≤17592186044416
 mD:P.D.length≤8796093022208
 cD:P.D.length≤dc
theorem RdPC.next {w w':World} {sa:Option Addr} {sb so sc:Nat} {da:Option Addr} {db dO dc:Nat} {P:PV} (h:RdPC w sa sb so sc da db dO dc P) (hb:Below w.heap.size w w'):RdPC w' sa sb so sc da db dO dc P :=
 ⟨h.rs.next hb,h.rd.next hb (Nat.le_refl _),h.old64,h.sz64,h.mS,h.mD,h.cD⟩
abbrev pvP (P:PV) (sa:Option Addr) (sc:Nat) (da:Option Addr) (dc:Nat):Value:=pv6 P.kd P.k P.old P.size (.slice sa P.S.length sc) (.slice da P.D.length dc)
theorem well_no {P:PV} {j:Nat} (hj:j<P.D.length) (h:((P.D.getD j ByteArray.empty).size:Int)≠P.k) : ¬ Well P:=fun hw=>h (hw.2 _ (getD_mem hj))
theorem well_all {P:PV} (hc:cnt P.kd P.k P.old P.size P.S=some P.D.length) (h : ∀ j,j<P.D.length→((P.D.getD j ByteArray.empty).size:Int)=P.k):Well P :=
 ⟨hc,fun d hd=>by
  obtain ⟨j,hj,rfl⟩:=List.getElem_of_mem hd
  have:=h j hj
  rwa [List.getD_eq_getElem?_getD,List.getElem?_eq_getElem hj] at this⟩
section
variable (w:World) (sa:Option Addr) (sb so sc:Nat) (da:Option Addr) (db dO dc:Nat) (P:PV)
set_option maxRecDepth 100000 in
set_option maxHeartbeats 1000000 in
theorem well_any (hp:RdPC w sa sb so sc da db dO dc P) :
  Calls Tryz.prog 218 #[pvP P sa sc da dc] w fun e w'=>e = .returned (.bool (decide (Well P)))∧Below w.heap.size w w':=by
 obtain ⟨kd,k,old,size,S,D⟩:=P
 obtain ⟨rs,rd,h1,h2,h3,h4,_⟩:=hp
 simp only at rs rd h1 h2 h3 h4
 show Calls Tryz.prog 218 #[pv6 kd k old size (.slice sa S.length sc) (.slice da D.length dc)] w _
 obtain ⟨W,hW,h6,hb,hz⟩:=box6 w (.int .i64 kd) (.int .i64 k) (.int .u64 (old:Int)) (.int .u64 (size:Int)) (.slice sa S.length sc) (.slice da D.length dc)
 obtain ⟨e0,e1,e2,e3,e4,e5⟩:=h6.cells
 have HC:=count_any W kd k old size sa sb so sc S (.slice da D.length dc) h1 h2 (rs.next hb) (fun _=>h3)
 have HX:Hid (∀ F,Below W.heap.size W F→Six F w.heap.size (.int .i64 kd) (.int .i64 k) (.int .u64 (old:Int)) (.int .u64 (size:Int)) (.slice sa S.length sc) (.slice da D.length dc)∧RdS F da db dO D.length D∧Below w.heap.size w F):=fun F hF=>⟨h6.next hF,rd.next (bnext hb hF) (Nat.le_refl _),bnext hb hF⟩
 have hD9:(D.length:Int)≤8796093022208:=by omega
 have eD:IntKind.u64.wrap (D.length:Int)=(D.length:Int):=by rw [IntKind.wrap_u64]; omega
 clear rs rd h1 h2 h3 h4 h6 hb hz
 rcases hc:cnt kd k old size S with _ | c
 ·have hw:decide (Well ⟨kd,k,old,size,S,D⟩)=false:=decide_eq_false (fun hw=>by have:=hw.1; simp only [hc] at this; cases this)
  rw [hc] at HC
  simp only [cV] at HC
  rw [hw]
  generalize S.length=ms at *
  generalize D.length=md at *
  clear hc hw
  go_enter Tryz.func218,Tryz.ntmps218
  go_wp2_with (go_at_call 310; (try rw [hW]); with_reducible refine HC.mono ?_; rintro x w1 ⟨rfl,hb1⟩; (obtain ⟨q1,q2,q3⟩:=HX.out _ hb1))
  go_ret
  exact ⟨rfl,q3⟩
 ·rw [hc] at HC
  simp only [cV] at HC
  by_cases hcd:c=D.length
  ·subst hcd
   have HCN:=hideC hc
   clear hc
   obtain ⟨m,hm⟩ : ∃ m,D.length=m:=⟨_,rfl⟩
   have HM:=hideC hm
   have HX2:Hid (∀ F,Below W.heap.size W F→Six F w.heap.size (.int .i64 kd) (.int .i64 k) (.int .u64 (old:Int)) (.int .u64 (size:Int)) (.slice sa S.length sc) (.slice da m dc)∧RdS F da db dO m D∧Below w.heap.size w F):=by rw [← hm]; exact HX
   rw [hm] at HC hD9 eD hW e5 ⊢
   clear hm HX
   generalize S.length=ms at *
   go_enter Tryz.func218,Tryz.ntmps218
   go_upto_region 5 with (go_at_call 310; (try rw [hW]); with_reducible refine HC.mono ?_; rintro x w1 ⟨rfl,hb1⟩; (obtain ⟨q1,q2,q3⟩:=HX2.out _ hb1); (obtain ⟨k0,k1,k2,k3,k4,k5⟩:=q1.cells))
   have HQ:Hid (RdS w1 da db dO m D∧Below w.heap.size w w1):=⟨q2,q3⟩
   clear q1 q2 q3 hb1 HC HX2 hW e0 e1 e2 e3 e4 e5
   go_wp2
   go_loopg [6,25] m (fun gg i6 ix wr=>w1=wr ∧ ∃ j:Nat,j≤m∧gg=m - j∧ix = .int .i64 (j:Int)∧Hid (∀ t,t<j→((D.getD t ByteArray.empty).size:Int)=k))
   case atStart =>
    go_light
    exact ⟨rfl,0,Nat.zero_le _,rfl,rfl,fun t ht=>absurd ht (Nat.not_lt_zero _)⟩
   case round =>
    obtain ⟨rfl,j,hj,rfl,rfl,HA⟩:=hrel
    have hj0:(0:Int)≤(j:Int):=Int.natCast_nonneg _
    have hmm:=HM.out
    by_cases hlt:j<m
    ·have hlt':(j:Int)<(m:Int):=by omega
     obtain rfl:=HQ.out.1.ptr (by omega)
     have cj:=HQ.out.1.at (k:=j) hlt
     have hsz:=HQ.out.1.sz _ (getD_mem (ss:=D) (k:=j) (by omega))
     obtain ⟨x,hx⟩ : ∃ x,D.getD j ByteArray.empty=x:=⟨_,rfl⟩
     have HXX:=hideC hx
     rw [hx] at cj hsz
     clear hx
     by_cases hk:(x.size:Int)=k
     ·have HA2:Hid (∀ t,t<j+1→((D.getD t ByteArray.empty).size:Int)=k):=fun t ht=>by
       rcases Nat.lt_or_ge t j with h | h
       ·exact HA.out t h
       ·obtain rfl:t=j:=by omega
        rw [HXX.out]; exact hk
      have hk1:((x.size:Int) != k)=false:=by rw [hk]; simp
      clear hk hmm HA
      go_wp2
      go_roundg (m - (j+1))
      case rel =>
       go_light
       exact ⟨rfl,j+1,hlt,rfl,by go_num,HA2⟩
      case measure=>go_light; omega
     ·have hk1:((x.size:Int) != k)=true:=bne_iff_ne.2 hk
      have HW:Hid (decide (Well ⟨kd,k,old,size,S,D⟩)=false):=decide_eq_false (well_no (j:=j) (by simp only; omega) (by simp only; rw [HXX.out]; exact hk))
      clear hk hmm HA
      go_wp2
      go_ret
      exact ⟨by rw [HW.out]; rfl,HQ.out.2⟩
    ·obtain rfl:j=m:=by omega
     have hlt' : ¬ (j:Int)<(j:Int):=by omega
     have HW:Hid (decide (Well ⟨kd,k,old,size,S,D⟩)=true):=decide_eq_true (well_all (by simp only; exact HCN.out) (fun t ht=>by simp only at ht ⊢; exact HA.out t (by omega)))
     clear hmm HA
     go_wp2
     go_ret
     exact ⟨by rw [HW.out]; rfl,HQ.out.2⟩
  ·have hw:decide (Well ⟨kd,k,old,size,S,D⟩)=false:=decide_eq_false (fun hw=>by have:=hw.1; simp only [hc] at this; cases this; exact hcd rfl)
   rw [hw]
   have hne:((c:Int) != (D.length:Int))=true:=bne_iff_ne.2 (by omega)
   generalize S.length=ms at *
   generalize D.length=md at *
   clear hc hw hcd
   go_enter Tryz.func218,Tryz.ntmps218
   go_wp2_with (go_at_call 310; (try rw [hW]); with_reducible refine HC.mono ?_; rintro x w1 ⟨rfl,hb1⟩; (obtain ⟨q1,q2,q3⟩:=HX.out _ hb1); (obtain ⟨k0,k1,k2,k3,k4,k5⟩:=q1.cells))
   go_ret
   exact ⟨rfl,q3⟩
theorem hd_len {P:PV} {c:Nat} (ho:CntOk P.kd P.k P.old P.size P.S c):(hd P).length≤35184372088832:=by
 have h1:=num_len (n:=P.size) (by have:=ho.hsz; omega)
 have h2:(mid P).length≤11 * 1099511627776+10:=by
  unfold mid
  have hl:=ho.len
  have hz:=ho.hsz
  split
  ·rename_i h
   obtain ⟨g1,g2⟩:=ho.one h
   have:=num_len (n:=P.S.getD 0 0) (by have:=(chain_at ho.chain 0 (by omega)).2; omega)
   omega
  ·split
   ·have:=laidL_le ho.chain (by omega)
    have:=num_len (n:=P.S.length) (by omega)
    rw [List.length_append]
    omega
   ·have:=num_len (n:=P.old) (by have:=ho.hold; omega)
    omega
 rw [hd,List.length_cons,List.length_cons,List.length_append]
 omega
theorem flat_le {P:PV} (h:Well P):(flatC P.D).length≤35184372088832:=by
 have ho:=cnt_ok h.1
 have hk:=ho.k32
 have hk1:=ho.k1
 obtain ⟨b,hb⟩ : ∃ b:Nat,P.k=b:=⟨P.k.toNat,by omega⟩
 have e:(flatC P.D).length=P.D.length * b:=flat_len (fun d hd=>by have:=h.2 d hd; omega)
 have:=ho.hc
 have:P.D.length * b≤1099511627776 * 32:=Nat.mul_le_mul this (by omega)
 omega
set_option maxRecDepth 100000 in
set_option maxHeartbeats 1000000 in
theorem encode_yes (hp:RdPC w sa sb so sc da db dO dc P) (h:Well P) :
  Calls Tryz.prog 131 #[pvP P sa sc da dc] w fun e w'=>e = .returned (.tuple #[.string ⟨(enc P).toArray⟩,.int .i64 0])∧Below w.heap.size w w':=by
 obtain ⟨W,hW,h6,hb,hz⟩:=box6 w (.int .i64 P.kd) (.int .i64 P.k) (.int .u64 (P.old:Int)) (.int .u64 (P.size:Int)) (.slice sa P.S.length sc) (.slice da P.D.length dc)
 obtain ⟨e0,e1,e2,e3,e4,e5⟩:=h6.cells
 have HC:=well_any W sa sb so sc da db dO dc P (hp.next hb)
 rw [decide_eq_true h] at HC
 have ho:=cnt_ok h.1
 have hl1:=hd_len ho
 have hl2:=flat_le h
 obtain ⟨kd,k,old,size,S,D⟩:=P
 simp only at e0 e1 e2 e3 e4 e5 hW ho hl1 hl2
 simp only [pvP] at HC
 show Calls Tryz.prog 131 #[pv6 kd k old size (.slice sa S.length sc) (.slice da D.length dc)] w _
 have i1:=ho.kd1
 have i3:=ho.k1
 obtain ⟨a,rfl⟩ : ∃ a:Nat,kd=a:=⟨kd.toNat,by omega⟩
 obtain ⟨b,rfl⟩ : ∃ b:Nat,k=b:=⟨k.toNat,by omega⟩
 have HX:Hid (∀ F,Below W.heap.size W F→Six F w.heap.size (.int .i64 (a:Int)) (.int .i64 (b:Int)) (.int .u64 (old:Int)) (.int .u64 (size:Int)) (.slice sa S.length sc) (.slice da D.length dc)∧Below w.heap.size w F):=fun F hF=>⟨h6.next hF,bnext hb hF⟩
 have HNum:Hid (∀ F,Below W.heap.size W F→Calls Tryz.prog 219 #[pv6 a b old size (.slice sa S.length sc) (.slice da D.length dc)] F fun e w'=>e = .returned (.string ⟨(hd ⟨a,b,old,size,S,D⟩).toArray⟩)∧Below F.heap.size F w'):=fun F hF=>numbers_any F a b old size sa sb so sc S D (.slice da D.length dc) _ (hp.next (bnext hb hF)).rs ho
 have HJ:Hid (∀ F,Below W.heap.size W F→Calls Tryz.prog 173 #[.slice da D.length dc,.string ByteArray.empty] F fun e w'=>e = .returned (.string ⟨(flatC D).toArray⟩)∧Below F.heap.size F w'):=fun F hF=>join_anyC F da db dO dc D (hp.next (bnext hb hF)).rd hp.cD (by have:=hp.mD; simp only at this; omega) (by omega)
 obtain ⟨t1,ht1⟩ : ∃ t1,(⟨(hd ⟨a,b,old,size,S,D⟩).toArray⟩:ByteArray)=t1:=⟨_,rfl⟩
 obtain ⟨t2,ht2⟩ : ∃ t2,(⟨(flatC D).toArray⟩:ByteArray)=t2:=⟨_,rfl⟩
 have hs1:(t1.size:Int)≤35184372088832:=by rw [← ht1]; simp [ByteArray.size]; omega
 have hs2:(t2.size:Int)≤35184372088832:=by rw [← ht2]; simp [ByteArray.size]; omega
 have HT:Hid (t1++t2=(⟨(enc ⟨a,b,old,size,S,D⟩).toArray⟩:ByteArray)):=by rw [← ht1,← ht2,str_add,enc_hd]; exact rfl
 rw [ht1] at HNum
 rw [ht2] at HJ
 clear hp h h6 hb hz ho hl1 hl2 i1 i3 ht1 ht2
 generalize S.length=ms at *
 generalize D.length=md at *
 go_enter Tryz.func131,Tryz.ntmps131
 go_upto_region 3 with (go_at_call 218; (try rw [hW]); with_reducible refine HC.mono ?_; rintro x w1 ⟨rfl,hb1⟩)
 obtain ⟨q1,q2⟩:=HX.out _ hb1
 obtain ⟨k0,k1,k2,k3,k4,k5⟩:=q1.cells
 clear q1 q2 e0 e1 e2 e3 e4 e5 hW HC
 go_region_with (first
  | (go_at_call 219; (refine (HNum.out _ (by first | exact hb1 | exact redrew hb1)).mono ?_); rintro x w2 ⟨rfl,hb2⟩; (have hw2:Below W.heap.size W w2:=by first | exact bnext hb1 hb2 | exact bnext hb1 (undrew hb2)); (obtain ⟨m0,m1,m2,m3,m4,m5⟩:=(HX.out _ hw2).1.cells))
  | (go_at_call 173; (refine (HJ.out _ (by first | exact hw2 | exact redrew hw2)).mono ?_); rintro x w3 ⟨rfl,hb3⟩; (have hw3:Below W.heap.size W w3:=by first | exact bnext hw2 hb3 | exact bnext hw2 (undrew hb3))))
 all_goals
  go_wp2
  go_ret2
  exact ⟨by rw [← HT.out]; rfl,(HX.out _ (by first | exact hw3 | exact redrew hw3 | exact redrew (redrew hw3))).2⟩
end
section
variable {w W w1:World} {a p:Nat} {U:Nat→Prop} {D D':St.DV} {S S':St.SV} {L L':List ByteArray} {g:Int}
set_option maxRecDepth 100000 in
theorem encoded_yes (w:World) {sa:Option Addr} {sb so sc:Nat} {da:Option Addr} {db dO dc:Nat} {P:PV} (hp:RdPC w sa sb so sc da db dO dc P) (h:Well P) (t:ByteArray) (ht:⟨(enc P).toArray⟩=t) :
  Calls Tryz.prog 77 #[pvP P sa sc da dc,.int .i64 0] w fun e w'=>e = .returned (.tuple #[.string t,.int .i64 0])∧Below w.heap.size w w':=by
 have hb:=bal (Below.refl w.heap.size w) (.cells #[.int .i64 P.kd,.int .i64 P.k,.int .u64 (P.old:Int),.int .u64 (P.size:Int),.slice sa P.S.length sc,.slice da P.D.length dc] 138)
 have HE:Hid (∀ W,Below w.heap.size w W→Calls Tryz.prog 131 #[pvP P sa sc da dc] W fun e w'=>e = .returned (.tuple #[.string t,.int .i64 0])∧Below w.heap.size w w'):=fun W hW=>(encode_yes W sa sb so sc da db dO dc P (hp.next hW) h).mono fun e w' z=>⟨by rw [← ht]; exact z.1,bnext hW z.2⟩
 unfold pvP at HE ⊢
 clear hp h
 go_enter Tryz.func77,Tryz.ntmps77
 go_wp2_with (go_at_call 131; (with_reducible refine (HE.out _ hb).mono ?_); rintro e w1 ⟨rfl,u1⟩)
 go_ret2
 exact ⟨rfl,u1⟩
end
def PrQ2 (w:World) (t:ByteArray) (e1:Int) (e:Ending) (w':World):Prop :=
 ∃ v e2,e = .returned (.tuple #[v,.int .i64 e2])∧Below w.heap.size w w' ∧ ∀ W',Below w'.heap.size w' W'→Calls Tryz.prog 77 #[v,.int .i64 e2] W' fun e w''=>e = .returned (.tuple #[.string t,.int .i64 e1])∧Below W'.heap.size W' w''
section
variable {a p:Nat} {U:Nat→Prop} {D:St.DV} {S:St.SV} {L:List ByteArray}
set_option maxRecDepth 100000 in
theorem prbC_any (w:World) (ht:Tb w) (h:Lg w 1 a p U D S L) (bl b1 b2:Nat) (x1:Int) (sa:Option Addr) (sl sc:Nat) (cl:w.cell? ⟨bl,0,none⟩=some (.pointer (some ⟨a,0,none⟩))) (c1:w.cell? ⟨b1,0,none⟩=some (.int .u64 x1)) (c2:w.cell? ⟨b2,0,none⟩=some (.slice sa sl sc)) (t:ByteArray) (e1:Int)
  (HP : ∀ W m,Tb W→Below w.heap.size w W→Frs W m (S.k:Int) L→Calls Tryz.prog 82 #[.pointer (some ⟨m+1,0,none⟩),.int .u64 x1,.slice sa sl sc] W (PrQ2 W t e1)) :
  Calls Tryz.prog 81 #[.pointer (some ⟨bl,0,none⟩),.pointer (some ⟨b1,0,none⟩),.pointer (some ⟨b2,0,none⟩)] w fun e w'=>e = .returned (.tuple #[.string t,.int .i64 e1])∧Below w.heap.size w w':=by
 obtain ⟨q,m,r0,vs,hrow,hF,_⟩:=h.row
 obtain ⟨_,_,c3,_,_,_⟩:=rwL_at hrow
 have ha:=World.block_lt_of_cell? _ _ c3
 have hl:=World.block_lt_of_cell? _ _ cl
 have h1:=World.block_lt_of_cell? _ _ c1
 have h2:=World.block_lt_of_cell? _ _ c2
 have HC:Hid (∀ W,Below w.heap.size w W→W.cell? ⟨bl,0,none⟩=some (.pointer (some ⟨a,0,none⟩))∧W.cell? ⟨a,3,none⟩=some (.pointer (some ⟨m+1,0,none⟩))∧W.cell? ⟨b1,0,none⟩=some (.int .u64 x1)∧W.cell? ⟨b2,0,none⟩=some (.slice sa sl sc)):=fun W hW=>⟨(hW.cell (p:=⟨bl,0,none⟩) hl).trans cl,(hW.cell (p:=⟨a,3,none⟩) ha).trans c3,(hW.cell (p:=⟨b1,0,none⟩) h1).trans c1,(hW.cell (p:=⟨b2,0,none⟩) h2).trans c2⟩
 have HPr:Hid (∀ W,Below w.heap.size w W→Calls Tryz.prog 82 #[.pointer (some ⟨m+1,0,none⟩),.int .u64 x1,.slice sa sl sc] W fun e w' => ∃ v e2,e = .returned (.tuple #[v,.int .i64 e2])∧Below w.heap.size w w'∧Hid (∀ W',Below w'.heap.size w' W'→Calls Tryz.prog 77 #[v,.int .i64 e2] W' fun e w''=>e = .returned (.tuple #[.string t,.int .i64 e1])∧Below w.heap.size w w'')):=fun W hW=>(HP W m (ht.next hW) hW (hF.next hW (Nat.le_refl _))).mono fun e w' z=>by
  obtain ⟨v,e2,z1,z2,z3⟩:=z
  exact ⟨v,e2,z1,bnext hW z2,fun W' hW'=>(z3 W' hW').mono fun e w'' y=>⟨y.1,bnext (bnext (bnext hW z2) hW') y.2⟩⟩
 obtain ⟨d1,d2,d3,d4⟩:=HC.out w (Below.refl _ _)
 have u:Below w.heap.size w w.drew:=(Below.refl _ _).drew
 clear ht h HP hF hrow c3 cl c1 c2 ha hl h1 h2
 go_enter Tryz.func81,Tryz.ntmps81
 go_upto_region 1 with (fail)
 go_region_held3 (fun Z=>Z.cell? ⟨bl,0,none⟩=some (.pointer (some ⟨a,0,none⟩))∧Z.cell? ⟨a,3,none⟩=some (.pointer (some ⟨m+1,0,none⟩))∧Z.cell? ⟨b1,0,none⟩=some (.int .u64 x1)∧Z.cell? ⟨b2,0,none⟩=some (.slice sa sl sc)) (first | assumption | (with_reducible exact HC.out _ u)) (first
  | (go_at_call 82; (with_reducible refine (HPr.out _ u).mono ?_); rintro e w1 ⟨v,e2,rfl,u,HE⟩)
  | (go_at_call 77; (with_reducible refine (HE.out _ (Below.refl _ _)).mono ?_); rintro e w2 ⟨rfl,u⟩))
 all_goals
  go_wp2
  go_ret2
  exact ⟨rfl,u⟩
set_option maxRecDepth 100000 in
theorem lb_of (w:World) (ht:Tb w) (h:Lg w 0 a p U D S L) (x1:Int) (sa:Option Addr) (sl sc:Nat) (t:ByteArray) (e1:Int)
  (HP : ∀ W m,Tb W→(∀ b,b<w.heap.size→b≠a→W.heap[b]? = w.heap[b]?)→Frs W m (S.k:Int) L→Calls Tryz.prog 82 #[.pointer (some ⟨m+1,0,none⟩),.int .u64 x1,.slice sa sl sc] W (PrQ2 W t e1)) :
  Calls Tryz.prog 38 #[.pointer (some ⟨a,0,none⟩),.int .u64 x1,.slice sa sl sc] w fun e w'=>e = .returned (.tuple #[.string t,.int .i64 e1])∧Below w.heap.size w w':=by
 obtain ⟨w1,hw1⟩ : ∃ W,((w.alloc (.cells #[.pointer (some ⟨a,0,none⟩)] 27)).alloc (.cells #[.int .u64 x1] 48)).alloc (.cells #[.slice sa sl sc] 66)=W:=⟨_,rfl⟩
 have u1:Below w.heap.size w w1:=by rw [← hw1]; exact bal (bal (bal (Below.refl _ _) _) _) _
 have k0:w1.heap[w.heap.size]? = some (.cells #[.pointer (some ⟨a,0,none⟩)] 27 (0,0)):=by rw [← hw1,(MapKept.heap_alloc _ _).2 _ (by simp; omega)]; exact St.new0 _ _ _
 have k1:w1.heap[w.heap.size+1]? = some (.cells #[.int .u64 x1] 48 (0,0)):=by rw [← hw1,(MapKept.heap_alloc _ _).2 _ (by simp)]; exact St.new2 _ _ _
 have k2:w1.heap[w.heap.size+2]? = some (.cells #[.slice sa sl sc] 66 (0,0)):=by
  rw [← hw1]
  have:=heap_alloc_new ((w.alloc (.cells #[.pointer (some ⟨a,0,none⟩)] 27)).alloc (.cells #[.int .u64 x1] 48)) (.cells #[.slice sa sl sc] 66)
  simpa using this
 have b0:w1.cell? ⟨w.heap.size,0,none⟩=some (.pointer (some ⟨a,0,none⟩)):=by rw [cell_of_row _ _ 0 _ _ (0,0) k0]; rfl
 have b1:w1.cell? ⟨w.heap.size+1,0,none⟩=some (.int .u64 x1):=by rw [cell_of_row _ _ 0 _ _ (0,0) k1]; rfl
 have b2:w1.cell? ⟨w.heap.size+2,0,none⟩=some (.slice sa sl sc):=by rw [cell_of_row _ _ 0 _ _ (0,0) k2]; rfl
 have h1:=h.next u1
 obtain ⟨q,m,r0,vs,hrow,_⟩:=h1.row
 have hax:=h.lt h.own
 have HW:Hid (Calls Tryz.prog 75 #[.pointer (some ⟨a,0,none⟩),.func (.func 81) #[] #[.pointer (some ⟨w.heap.size,0,none⟩),.pointer (some ⟨w.heap.size+1,0,none⟩),.pointer (some ⟨w.heap.size+2,0,none⟩)]] w1 fun e w'=>e = .returned (.tuple #[.string t,.int .i64 e1])∧Below w.heap.size w w') :=
  (wholeS_any w1 a _ _ _ (.inr (.inr (.inl rfl))) hrow _ _ fun W hW=>prbC_any W ((ht.next u1).lkd h1 hW) (h1.lkd hW) w.heap.size (w.heap.size+1) (w.heap.size+2) x1 sa sl sc (hW.cell b0 (by omega)) (hW.cell b1 (by omega)) (hW.cell b2 (by omega)) t e1 fun W2 m2 hT hb hF=>HP W2 m2 hT (fun b hb1 hb2=>(hb.block b (Nat.lt_of_lt_of_le (Nat.lt_of_lt_of_le hb1 u1.size) hW.size)).trans ((hW.oth b (Nat.lt_of_lt_of_le hb1 u1.size) hb2).trans (u1.block b hb1))) hF).mono fun e w' z=>⟨z.1,bnext u1 z.2⟩
 clear ht h h1 hrow u1 k0 k1 k2 b1 b2 hax HP
 have HW1:=hide hw1
 clear hw1
 go_enter Tryz.func38,Tryz.ntmps38
 go_upto_region 1 with (fail)
 rw [HW1.out]
 go_wp2_with (go_at_call 75; (with_reducible refine HW.out.mono ?_); rintro e w2 ⟨rfl,t2⟩)
 go_ret2
 exact ⟨rfl,t2⟩
end
end Go.Proofs.YtoblgjledefdbaaGreatDoor
namespace Go.Proofs.YtoblgjledefdbaaGreatDoor
open Go.RowKit
open Cv (RdC zl cU tno)
open Pl (pw)
attribute [local go_sem ↓] Go.wp_at_zero Go.wp_at_succ
variable {GB RB:Nat}
theorem rdu_rd {w:World} {ao:Option Addr} {b off len:Nat} {l:List Nat} (h:RdU w ao b off len l):Cv.Rd w ao b off len l:=⟨h.hl,h.ptr,fun _ hj=>h.at hj⟩
set_option maxRecDepth 100000 in
theorem clone_any (w:World) (b off cap:Nat) (S:List Nat) (hr:RdU w (some ⟨b,off,none⟩) b off S.length S) (hm:S.length≤1048576) :
  Calls Tryz.prog 141 #[.slice (some ⟨b,off,none⟩) S.length cap] w fun e w' => ∃ v,e = .returned v∧Cv.Own w' w.heap.size v S∧Below w.heap.size w w':=by
 have hb:=bal (Below.refl w.heap.size w) (.cells #[] 48)
 have ho:Cv.Own (w.alloc (.cells #[] 48)) w.heap.size (.slice (some ⟨w.heap.size,0,none⟩) 0 0) []:=⟨rfl,.inr ⟨w.heap.size,0,_,rfl,Nat.le_refl _,heap_alloc_new w _,Nat.zero_le _,by decide,rfl,rfl⟩⟩
 have HO:=hide ho
 have HR:=hide (rdu_rdc (cap:=cap) (hr.next hb) (fun e=>by cases e))
 have HB:=hide hb
 have HE:=Lib.run_eql_slice_some_nil (P:=Tryz.prog) w ⟨b,off,none⟩ S.length cap Tryz.underlying66
 clear hr ho hb
 go_enter Tryz.func141,Tryz.ntmps141
 go_wp2_with (at_builtin; refine Cv.wpList_append_U _ rfl _ _ rfl w.heap.size _ [] rfl HO.out _ S rfl HR.out ?c1 ?c2 ?_)
 case c1=>simp only [List.length_nil]; omega
 case c2=>have:=HB.out.size; exact this
 intro v' w' o' g' _
 have HY:Hid (Cv.Own w' w.heap.size v' S∧Below w.heap.size w w'):=⟨o',HB.out.trans ((Below.refl _ _).grown g' HB.out.size (fun k hk=>by cases hk; exact Nat.le_refl _))⟩
 clear o' g'
 go_wp2
 go_ret
 exact ⟨_,rfl,HY.out.1,HY.out.2⟩
abbrev zP:Obj := .cells #[.int .i64 0,.int .i64 0,.int .u64 0,.int .u64 0,.slice none 0 0,.slice none 0 0] 138
def dgB (c:Nat) (L:List ByteArray) (n:Nat) (S:List Nat):List ByteArray:=(Cv.rst 0 n S).map fun b=>nd c L b.1 b.2
theorem rst_in {n:Nat} {S:List Nat} (he:Cv.errS n S=0) : ∀ b∈Cv.rst 0 n S,(b.2+1) * 2^b.1≤n:=by
 obtain ⟨h40,_,_,hc⟩:=Cv.errS_ok he
 exact fun b hb=>(Cv.til_mem (Cv.rst_but n S h40 hc) b hb).2
theorem rst_num {n:Nat} {S:List Nat} (he:Cv.errS n S=0):S.length≤n∧0<S.length:=by
 obtain ⟨h40,h0,_,hc⟩:=Cv.errS_ok he
 refine ⟨?_,h0.1⟩
 have key : ∀ (S:List Nat) (x n:Nat),Cv.Chain x S n→S.length+x≤n:=by
  intro S
  induction S with
  | nil=>intro x n h; have h':x≤n:=h; rw [List.length_nil]; omega
  | cons i S ih =>
   intro x n h
   have:=ih _ _ h.2
   have:=h.1
   rw [List.length_cons]; omega
 have:=key S 0 n hc
 omega
set_option maxRecDepth 100000 in
set_option maxHeartbeats 1000000 in
theorem bprove_ok (w:World) (m:Nat) (k:Int) (L:List ByteArray) (hF:Frs w m k L) (hL:L.length≤5000) (n:Nat) (hn:n≤L.length) (ao:Option Addr) (b off c:Nat) (S:List Nat) (hr:RdU w ao b off S.length S) (he:Cv.errS n S=0) (D:List ByteArray) (hD:dgB (clk k) L n S=D) :
  Calls Tryz.prog 82 #[.pointer (some ⟨m+1,0,none⟩),.int .u64 (n:Int),.slice ao S.length c] w fun e w' => ∃ vs vd,e = .returned (.tuple #[.agg #[.int .i64 2,.int .i64 k,.int .u64 0,.int .u64 (n:Int),vs,vd],.int .i64 0])∧Cv.Own w' w.heap.size vs S∧OwnS w' w.heap.size vd D∧Below w.heap.size w w':=by
 obtain ⟨hS1,hS0⟩:=rst_num he
 have hin:=rst_in he
 obtain ⟨h40,_,_,hc⟩:=Cv.errS_ok he
 obtain rfl:=hr.ptr hS0
 obtain ⟨o0,ho0⟩ : ∃ o0,zP=o0:=⟨_,rfl⟩
 have hb:=bal (Below.refl w.heap.size w) o0
 have HS:=fsize_any _ m k L (hF.next hb (Nat.le_refl _))
 obtain ⟨C,hC⟩ : ∃ C,zl (Cv.rst 0 n S)=C:=⟨_,rfl⟩
 have hlC:C.length≤1000000:=by rw [← hC,Cv.zl_len]; have:=Cv.rst_len n h40 S 0 hc; omega
 have HRs:Calls Tryz.prog 140 #[.int .u64 (n:Int),.slice (some ⟨b,off,none⟩) S.length c] (w.alloc o0) fun e w' => ∃ ao g cap,e = .returned (.tuple #[.slice ao C.length cap,.int .i64 0])∧RdB w' ao g 0 C.length C∧Below (w.alloc o0).heap.size (w.alloc o0) w':=by
  refine (Cv.rest_any n (w.alloc o0) (some ⟨b,off,none⟩) b off S.length c S (rdu_rd (hr.next hb)) (by omega)).mono fun e w' ⟨v,e1,e2,e3⟩ => ?_
  rw [he] at e1
  rw [Cv.rstS,if_pos he,hC] at e2
  obtain ⟨ao,g,n',cap,rfl,hr',_⟩:=own_rdB e2 (fun x hx=>by
   rw [← hC] at hx
   obtain ⟨b0,hb0,rfl⟩:=List.mem_map.1 hx
   exact (fit40 (hin b0 hb0) h40).1)
  obtain rfl:=hr'.len
  exact ⟨ao,g,cap,e1,hr',e3⟩
 have hds:dgs (clk k) L C=some D:=by rw [← hC,dgs_all (fun b hb=>Nat.le_trans (hin b hb) hn),← hD]; rfl
 have HD:Hid (∀ W ao g cap,Below w.heap.size w W→RdB W ao g 0 C.length C→Calls Tryz.prog 106 #[.pointer (some ⟨m+1,0,none⟩),.slice ao C.length cap] W fun e w'=>Below W.heap.size W w' ∧ ∃ ad md cd,e = .returned (.tuple #[.slice ad md cd,.bool true])∧OwnS w' W.heap.size (.slice ad md cd) D):=fun W ao g cap hb hr=>by
  refine (fdigests_any W m k L (hF.next hb (Nat.le_refl _)) ao g 0 cap C hr (by omega)).mono ?_
  rintro e w' ⟨hb',⟨h1,_⟩ | ⟨D',h1,v,rfl,ho⟩⟩
  ·rw [hds] at h1; cases h1
  ·rw [hds] at h1
   injection h1 with h1
   subst h1
   obtain ⟨ad,md,cd,rfl⟩:=Cv.own_slice ho
   exact ⟨hb',ad,md,cd,rfl,ho⟩
 have HSt:Hid (∀ W,Below w.heap.size w W→Calls Tryz.prog 134 #[.pointer (some ⟨m+1,0,none⟩)] W fun e w'=>e = .returned (.int .i64 k)∧W=w'):=fun W hb=>(fstrength_any W m k L (hF.next hb (Nat.le_refl _))).mono fun _ _ h=>⟨h.1,h.2.symm⟩
 have HCl:Hid (∀ W,Below w.heap.size w W→Calls Tryz.prog 141 #[.slice (some ⟨b,off,none⟩) S.length c] W fun e w' => ∃ a1 n1 c1,e = .returned (.slice a1 n1 c1)∧Cv.Own w' W.heap.size (.slice a1 n1 c1) S∧Below W.heap.size W w'):=fun W hb=>(clone_any W b off c S (hr.next hb) (by omega)).mono fun e w' ⟨v,e1,e2,e3⟩=>by
  obtain ⟨a1,n1,c1,rfl⟩:=Cv.own_slice e2
  exact ⟨a1,n1,c1,e1,e2,e3⟩
 have hn' : ¬ (L.length:Int)<(n:Int):=by omega
 have HP:Hid (∀ W,Below (w.alloc o0).heap.size (w.alloc o0) W→Six W w.heap.size (.int .i64 0) (.int .i64 0) (.int .u64 0) (.int .u64 0) (.slice none 0 0) (.slice none 0 0)):=fun W hb=>Six.next (show Six (w.alloc o0) _ _ _ _ _ _ _ by rw [← ho0]; exact six_new w _ _ _ _ _ _) hb
 rw [← ho0] at hb HS HP HRs
 unfold zP at hb HS HP HRs
 clear hF hn hr hL ho0 hin hds hD hlC hC hS1 hS0 hc h40 he
 go_enter Tryz.func82,Tryz.ntmps82
 go_wp2_with (first
  | (go_at_call 132; with_reducible refine HS.mono ?_; rintro e w0 ⟨rfl,rfl⟩)
  | (go_at_call 140; with_reducible refine HRs.mono ?_; rintro e w1 ⟨ao,g,cap,rfl,hr1,hb1⟩)
  | (go_at_call 106; with_reducible refine (HD.out _ _ _ _ (bnext hb hb1) hr1).mono ?_; rintro e w2 ⟨hb2,ad,md,cd,rfl,ho⟩)
  | (go_at_call 134; with_reducible refine (HSt.out _ (bnext (bnext hb hb1) hb2)).mono ?_; rintro e w3 ⟨rfl,rfl⟩)
  | (go_at_call 141; with_reducible refine (HCl.out _ (bnext (bnext hb hb1) hb2)).mono ?_; rintro e w4 ⟨a4,n4,c4,rfl,ho4,hb4⟩; have h6:=HP.out _ (bnext (bnext hb1 hb2) hb4); obtain ⟨k0,k1,k2,k3,k4,k5⟩:=h6.cells; have f0:=h6.fz))
 have hF6:=h6.put (.int .i64 2) (.int .i64 k) (.int .u64 0) (.int .u64 (n:Int)) (.slice a4 n4 c4) (.slice ad md cd)
 have hch:=put6_ch w4 w.heap.size (.int .i64 2) (.int .i64 k) (.int .u64 0) (.int .u64 (n:Int)) (.slice a4 n4 c4) (.slice ad md cd)
 have hle:=(bnext hb1 hb2).size
 unfold put6 at hF6 hch
 obtain ⟨s0,s1,s2,s3,s4,s5⟩:=hF6.cells
 rw [World.size_alloc] at hle
 refine bodyPost_ret (v := .tuple #[.agg #[.int .i64 2,.int .i64 k,.int .u64 0,.int .u64 (n:Int),.slice a4 n4 c4,.slice ad md cd],.int .i64 0]) (by simp [results,Tryz.results82,go_sem,s0,s1,s2,s3,s4,s5]) rfl ?_
 have hz1:=hb1.size
 rw [World.size_alloc] at hz1
 refine ⟨_,_,rfl,?_,?_,(bnext (bnext (bnext hb hb1) hb2) hb4).trans (hch.below (by rintro b rfl; exact Nat.le_refl _))⟩
 ·exact (keep_row ho4 fun g _ hg=>hch.block g (by omega)).mono (by omega)
 ·exact (keep_row (own_next ho hb4 (Nat.le_refl _)) fun g _ hg=>hch.block g (by omega)).mono (by omega)
end Go.Proofs.YtoblgjledefdbaaGreatDoor
namespace Go.Proofs.YtoblgjledefdbaaGreatDoor
open Go.RowKit
open Cv (RdC zl cU)
attribute [local go_sem ↓] Go.wp_at_zero Go.wp_at_succ
theorem dgB_size {c:Nat} (hc:c≤32) (L:List ByteArray) (n:Nat) (S:List Nat) : ∀ s∈dgB c L n S,s.size=c:=fun s hs=>by
 obtain ⟨b,_,rfl⟩:=List.mem_map.1 hs
 exact nd_size hc _ _ _
theorem dgB_len (c:Nat) (L:List ByteArray) (n:Nat) (S:List Nat):(dgB c L n S).length=(Cv.rst 0 n S).length:=List.length_map _
theorem bprove_rd (w:World) (m:Nat) (k:Int) (L:List ByteArray) (hF:Frs w m k L) (hL:L.length≤5000) (n:Nat) (hn:n≤L.length) (ao:Option Addr) (b off c:Nat) (S:List Nat) (hr:RdU w ao b off S.length S) (he:Cv.errS n S=0) (D:List ByteArray) (hD:dgB (clk k) L n S=D) :
  Calls Tryz.prog 82 #[.pointer (some ⟨m+1,0,none⟩),.int .u64 (n:Int),.slice ao S.length c] w fun e w' => ∃ gs cs ad bd cd,e = .returned (.tuple #[.agg #[.int .i64 2,.int .i64 k,.int .u64 0,.int .u64 (n:Int),.slice (some ⟨gs,0,none⟩) S.length cs,.slice ad D.length cd],.int .i64 0])∧RdU w' (some ⟨gs,0,none⟩) gs 0 S.length S∧S.length≤cs∧RdS w' ad bd 0 D.length D∧D.length≤cd∧(ad=none→cd=0)∧Cv.Own w' w.heap.size (.slice (some ⟨gs,0,none⟩) S.length cs) S∧OwnS w' w.heap.size (.slice ad D.length cd) D∧Below w.heap.size w w' :=
 (bprove_ok w m k L hF hL n hn ao b off c S hr he D hD).mono fun e w' ⟨vs,vd,e1,e2,e3,e4⟩=>by
  obtain ⟨gs,cs,rfl,_,hcs,_⟩:=ownU_form e2 (rst_num he).2
  obtain ⟨ad,bd,cd,rfl,r3,hcd,hnd⟩:=owns_rds e3 (fun s hs=>by rw [← hD] at hs; rw [dgB_size (clk_le k) _ _ _ s hs]; have:=clk_le k; omega)
  exact ⟨gs,cs,ad,bd,cd,e1,own_rdu (l':=[]) (by rw [List.append_nil]; exact e2),hcs,r3,hcd,hnd,e2,e3,e4⟩
end Go.Proofs.YtoblgjledefdbaaGreatDoor
namespace Go.Proofs.YtoblgjledefdbaaGreatDoor
open Go.RowKit
def pvB (k:Int) (L:List ByteArray) (n:Nat) (S:List Nat):PV:=⟨2,k,0,n,S,dgB (clk k) L n S⟩
theorem well_batch {k:Int} (k1:1≤k) (k2:k≤32) (L:List ByteArray) {n:Nat} (hn:n≤2^40) {S:List Nat} (he:Cv.errS n S=0):Well (pvB k L n S):=by
 have hck:(clk k:Int)=k:=by unfold clk; rw [if_neg (by omega),if_neg (by omega)]; omega
 refine ⟨?_,fun d hd => ?_⟩
 ·show cnt 2 k 0 n S=some (dgB (clk k) L n S).length
  rw [dgB_len,cnt,if_pos ⟨k1,k2,hn⟩,if_neg (by decide),if_pos rfl,if_pos ⟨rfl,he⟩]
 ·show (d.size:Int)=k
  rw [dgB_size (clk_le k) L n S d hd]; exact hck
section
variable {w:World} {a p:Nat} {U:Nat→Prop} {D:St.DV} {S:St.SV} {L:List ByteArray}
theorem rdu_alike {W:World} {ao:Option Addr} {b off len:Nat} {l:List Nat} (h:RdU w ao b off len l) (hb : ∀ c,c<w.heap.size→c≠a→W.heap[c]? = w.heap[c]?) (hn:0<len→b≠a):RdU W ao b off len l :=
 ⟨h.hl,h.ptr,fun j v hv=>by
  have hc:=h.rng j v hv
  have hlt:=World.block_lt_of_cell? _ _ hc
  exact (World.cell?_of_block (a:=⟨b,off+j,none⟩) (hb b hlt (hn (by have:=(List.getElem?_eq_some_iff.1 hv).1; rw [show (Cv.cU l).length=l.length by simp [Cv.cU]] at this; have:=h.hl; omega)))).trans hc⟩
theorem lbatch_ok (w:World) (ht:Tb w) (h:Lg w 0 a p U D S L) (hL:L.length≤5000) (n:Nat) (hn:n≤L.length) (ao:Option Addr) (b off len c:Nat) (X:List Nat) (hr:RdU w ao b off len X) (hb:0<len→b≠a) (he:Cv.errS n X=0) :
  Calls Tryz.prog 38 #[.pointer (some ⟨a,0,none⟩),.int .u64 (n:Int),.slice ao len c] w fun e w'=>e = .returned (.tuple #[.string ⟨(enc (pvB S.k L n X)).toArray⟩,.int .i64 0])∧Below w.heap.size w w':=by
 refine lb_of w ht h n ao len c _ 0 fun W m hT hbW hF => ?_
 have hrW:=rdu_alike hr hbW hb
 have hl:=hr.hl
 subst hl
 refine (bprove_rd W m S.k L hF hL n hn ao b off c X hrW he _ rfl).mono fun e w' z => ?_
 obtain ⟨gs,cs,ad,bd,cd,rfl,z1,z2,z3,z4,z5,z6,z7,z8⟩:=z
 have hw:=well_batch hF.k1 hF.k2 L (n:=n) (by omega) he
 refine ⟨_,_,rfl,z8,fun W' hW' => ?_⟩
 have hp:RdPC w' (some ⟨gs,0,none⟩) gs 0 cs ad bd 0 cd (pvB S.k L n X):=⟨z1,z3,by show (0:Nat)<_; decide,by show n<_; omega,?_,?_,z4⟩
 ·exact encoded_yes W' (hp.next hW') hw _ rfl
 ·show X.length≤_
  have:=(rst_num he).1
  omega
 ·show (dgB (clk (S.k:Int)) L n X).length≤_
  obtain ⟨h40,_,_,hc⟩:=Cv.errS_ok he
  rw [dgB_len]
  have:=rst_le h40 hc
  omega
end
end Go.Proofs.YtoblgjledefdbaaGreatDoor
namespace Go.Proofs.YtoblgjledefdbaaGreatDoor
theorem tx_of (s:ByteArray):St.tx s.data.toList=s:=by
 cases s
 rfl
theorem stE_zero {D:St.DV} {S:St.SV} : ∀ (ds:List ByteArray) (p:Nat),(∀ j d,ds[j]? = some d→St.nodD D S (p+j)=(d.data.toList,0))→stE D S p ds=0
 | [],_,_=>rfl
 | d::ds,p,h=>by
  have h0:=h 0 d rfl
  rw [Nat.add_zero] at h0
  rw [stE,h0,if_neg (fun q=>q rfl),if_pos (tx_of d)]
  refine stE_zero ds (p+1) fun j x hx => ?_
  rw [show p+1+j=p+(j+1) by omega]
  exact h (j+1) x (by simpa using hx)
structure Has (k:Nat) (L:List ByteArray) (D:St.DV):Prop where
 k1:1≤k
 k2:k≤32
 few:L.length≤65536
 sz : ∀ s∈L,s.size≤1048576
 down:D.down=false
 i:(St.bA k (itL k L)).a <+: (St.fget D.L St.nmI).now
 n:(St.bA k (itL k L)).b <+: (St.fget D.L St.nmN).now
section
variable {k:Nat} {L:List ByteArray} {D:St.DV} {S:St.SV}
theorem Has.ok (h:Has k L D):St.OkA k (itL k L):=itL_ok h.k1 h.k2 h.few h.sz
theorem Has.item (h:Has k L D) (hS:S.ends=(St.bA k (itL k L)).ends) {i:Nat} {x:ByteArray} (hx:L[i]? = some x):St.itmD D S i=(x.data.toList,0) :=
 St.item_ok h.ok hS h.down h.i i _ (itL_at k L i x hx)
theorem Has.tk (h:Has k L D) (hS:S.ends=(St.bA k (itL k L)).ends) (hk:S.k=k) : ∀ i,i≤L.length→tkL D S i=(L.take i,0)
 | 0,_=>rfl
 | i+1,hi=>by
  have ih:=h.tk hS hk i (by omega)
  obtain ⟨x,hx⟩ : ∃ x,L[i]? = some x:=⟨_,List.getElem?_eq_getElem (by omega)⟩
  have hit:=h.item hS hx
  have ht:L.take (i+1)=L.take i++[x]:=by
   rw [List.take_succ_eq_append_getElem (by omega)]
   congr 2
   exact Option.some.inj ((List.getElem?_eq_getElem (by omega)).symm.trans hx)
  have hst:stE D S (St.nn i) (mdL k (L.take i) x)=0:=stE_zero _ _ fun j d hd=>St.node_ok h.ok hS hk h.down h.n i j _ d (itL_at k L i x hx) hd
  rw [tkL,ih]
  simp only
  rw [hit,if_neg (fun q=>q rfl),if_neg (fun q=>q rfl),tx_of,hk,hst,if_neg (fun q=>q rfl),ht]
theorem ends_len (h:Has k L D):(St.bA k (itL k L)).ends.length=L.length:=by rw [h.ok.lens.ends,itL_len]
theorem Has.all (h:Has k L D) (hS:S.ends=(St.bA k (itL k L)).ends) (hk:S.k=k):tkL D S S.ends.length=(L,0):=by
 rw [hS,ends_len h,h.tk hS hk L.length (Nat.le_refl _),List.take_length]
theorem Has.get (h:Has k L D) (hS:S.ends=(St.bA k (itL k L)).ends) {i:Nat} {x:ByteArray} (hx:L[i]? = some x):gtD D S L i=(x,0):=by
 unfold gtD
 rw [h.item hS hx,if_neg (fun q=>q rfl),if_pos,tx_of]
 rw [tx_of,smL,List.getD_eq_getElem?_getD,List.getElem?_map,hx]; rfl
theorem has_ext (h1:1≤k) (h2:k≤32) (hf:L.length≤65536) (hs : ∀ s∈L,s.size≤1048576) (hd:D.down=false) (he:St.Ext k (itL k L) D.L):Has k L D :=
 ⟨h1,h2,hf,hs,hd,by rw [he.i]; exact List.prefix_rfl,by rw [he.n]; exact List.prefix_rfl⟩
theorem lo_of {D D':St.DV} (hh:Has k L D') (ho:St.opnD D (k:Int)=(D',some (St.sA k (itL k L)),0)):loD D (k:Int)=(D',some (St.sA k (itL k L),L),0):=by
 unfold loD
 rw [ho]
 simp only
 rw [hh.all rfl rfl,if_pos rfl]
theorem a_of {D D':St.DV} {S':St.SV} {e:Int} {x:ByteArray} (hx:x.size≤1048576) (hf:S.ends.length<65536) (hk:S.k=k) (ha:St.addD D S x.data.toList (mdL k L x)=(D',S',e)):aD D S L x=(D',S',if e=0 then L++[x] else L,e):=by
 unfold aD
 rw [if_neg (by omega),if_neg (by omega),hk,ha]
end
end Go.Proofs.YtoblgjledefdbaaGreatDoor
