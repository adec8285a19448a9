/- Own work. -/
import Derived.Deep.RegionHeld3
import Derived.BigQuiet
import Derived.Test.YtoblgjledefdbaaGreatDoorQf26
namespace Go.Proofs.YtoblgjledefdbaaGreatDoor.St
open Go.RowKit
open Rc
attribute [local go_sem ↓] Go.wp_at_zero Go.wp_at_succ
theorem dN (w:World) (n:Nat):Below w.heap.size w (w.drewN n):=below_drewN (Below.refl _ _) n
section
variable {q p:Nat} {T:Nat→Prop} {D:DV} {S:SV}
def TkQ (w:World) (q p:Nat) (T:Nat→Prop) (D:DV) (S:SV) (o:Option (List Nat×BitVec 32)) (e:Ending) (w':World):Prop:=match o with
 | none=>e = .returned (.int .i64 190)∧SkM w w' q p T D S
 | some st=>e = .returned (.int .i64 0)∧SkM w w' q p T D { S with ends:=st.1,chain:=st.2 }
theorem tk_no {w w':World} (h:Sk w q p T D S) (hb:Below w.heap.size w w') {o:Option (List Nat×BitVec 32)} (ho:o=none):TkQ w q p T D S o (.returned (.int .i64 190)) w':=by
 rw [ho]; exact ⟨rfl,SkM.of h hb⟩
theorem tkN_mark {k:Nat} {a b:List UInt8} {st:List Nat×BitVec 32} {row:List UInt8} (h:rmrk row=none):tkN k a b st row=none:=by unfold tkN; rw [h]
theorem tkN_bad {k:Nat} {a b:List UInt8} {st:List Nat×BitVec 32} {row:List UInt8} {m:MV} (h:rmrk row=some m) (hc:65536≤st.1.length∨m.items≤lst st.1∨a.length<m.items∨whl ((a.drop (lst st.1)).take (m.items - lst st.1))=false):tkN k a b st row=none:=by
 unfold tkN; rw [h]; exact if_pos hc
theorem tkN_nodes {k:Nat} {a b:List UInt8} {st:List Nat×BitVec 32} {row:List UInt8} {m:MV} (h:rmrk row=some m) (hr:rdN k b (nn st.1.length) (nn (st.1.length+1) - nn st.1.length)=none):tkN k a b st row=none:=by
 unfold tkN; rw [h]
 simp only
 split
 ·rfl
 ·rw [hr]
theorem tkN_all {k:Nat} {a b:List UInt8} {st:List Nat×BitVec 32} {row:List UInt8} {m:MV} {rows:List ByteArray} (h:rmrk row=some m) (hc : ¬ (65536≤st.1.length∨m.items≤lst st.1∨a.length<m.items∨whl ((a.drop (lst st.1)).take (m.items - lst st.1))=false)) (hr:rdN k b (nn st.1.length) (nn (st.1.length+1) - nn st.1.length)=some rows) :
  tkN k a b st row=if m=nxM k st.1 st.2 ((a.drop (lst st.1)).take (m.items - lst st.1)) rows then some (st.1++[m.items],m.chain) else none:=by
 unfold tkN; rw [h]
 simp only
 rw [if_neg hc,hr]
set_option maxRecDepth 100000 in
set_option maxHeartbeats 4000000 in
theorem takenext_any (w:World) (h:Sk w q p T D S) (hd:D.down=false) (row:ByteArray) :
  Calls Tryz.prog 154 #[.pointer (some ⟨q,0,none⟩),.string row] w (TkQ w q p T D S (tkN S.k (now D nmI) (now D nmN) (S.ends,S.chain) row.data.toList)):=by
 obtain ⟨hk1,hk2,hf,_,_,hlow⟩:=h.small
 obtain ⟨ea,ec,hcs⟩:=h.seen
 cases hm:rmrk row.data.toList with
 | none =>
  have HM:Hid (Calls Tryz.prog 243 #[.string row] w fun e w'=>e = .returned (.tuple #[.agg #[.int .i64 0,.int .u64 0,.int .u64 0,.int .u64 0,.int .u32 0],.int .i64 180])∧Below w.heap.size w w'):=rmark_any w row _ _ (rmT_no hm)
  have HZ:Hid (∀ W,Below w.heap.size w W→TkQ w q p T D S (tkN S.k (now D nmI) (now D nmN) (S.ends,S.chain) row.data.toList) (.returned (.int .i64 190)) W):=fun W hW=>tk_no h hW (tkN_mark hm)
  generalize tkN S.k (now D nmI) (now D nmN) (S.ends,S.chain) row.data.toList=o at *
  clear h hm hcs
  go_enter Tryz.func154,Tryz.ntmps154
  go_wp2_with (go_at_call 243; (with_reducible refine HM.out.mono ?_); rintro e w1 ⟨rfl,u1⟩)
  go_ret
  exact HZ.out _ (bal u1 _)
 | some m =>
  obtain ⟨m0,e0⟩ : ∃ x,m.k=x:=⟨_,rfl⟩
  obtain ⟨m1,e1⟩ : ∃ x,m.size=x:=⟨_,rfl⟩
  obtain ⟨m2,e2⟩ : ∃ x,m.items=x:=⟨_,rfl⟩
  obtain ⟨m3,e3⟩ : ∃ x,m.nodes=x:=⟨_,rfl⟩
  obtain ⟨md,e4⟩ : ∃ x,m.chain.toNat=x:=⟨_,rfl⟩
  have HM:Hid (Calls Tryz.prog 243 #[.string row] w fun e w'=>e = .returned (.tuple #[.agg #[.int .i64 m0,.int .u64 (m1:Int),.int .u64 (m2:Int),.int .u64 (m3:Int),.int .u32 (md:Int)],.int .i64 0])∧Below w.heap.size w w'):=by
   have:=rmark_any w row _ _ (rmT_yes hm)
   rw [mC,e0,e1,e2,e3,e4] at this
   exact this
  have HZ:Hid (∀ W,Below w.heap.size w W→tkN S.k (now D nmI) (now D nmN) (S.ends,S.chain) row.data.toList=none→TkQ w q p T D S (tkN S.k (now D nmI) (now D nmN) (S.ends,S.chain) row.data.toList) (.returned (.int .i64 190)) W):=fun W hW ho=>tk_no h hW ho
  have CQ:Hid (∀ W,Below w.heap.size w W→W.cell? ⟨q,0,none⟩=some (.pointer (some ⟨p,0,none⟩))∧W.cell? ⟨q,2,none⟩=some (.slice ea S.ends.length ec)):=fun W hW=>⟨(hcs W hW).1,(hcs W hW).2.2.1⟩
  by_cases hB:65536≤S.ends.length
  ·have HZ2:=hide (fun W hW=>HZ.out W hW (tkN_bad hm (.inl hB)))
   have hB2:(65536:Int)≤(S.ends.length:Int):=by omega
   generalize tkN S.k (now D nmI) (now D nmN) (S.ends,S.chain) row.data.toList=o at *
   clear h hm hcs HZ e0 e1 e2 e3 e4
   generalize S.ends.length=n at *
   go_enter Tryz.func154,Tryz.ntmps154
   go_wp2_with (go_at_call 243; (with_reducible refine HM.out.mono ?_); rintro e w1 ⟨rfl,u1⟩; have cq:=(CQ.out _ u1).2; have cq2:=(CQ.out _ (bal u1 (.cells #[.int .i64 m0,.int .u64 (m1:Int),.int .u64 (m2:Int),.int .u64 (m3:Int),.int .u32 (md:Int)] 239))).2)
   go_ret
   exact HZ2.out _ (bal u1 _)
  ·have hB2 : ¬ (65536:Int)≤(S.ends.length:Int):=by omega
   have HL:Hid (∀ W,Below w.heap.size w W→Calls Tryz.prog 155 #[.pointer (some ⟨q,0,none⟩),.string ⟨#[105,116,101,109,115]⟩] W fun e w'=>e = .returned (.int .i64 (lst S.ends:Int))∧w'=W):=fun W hW=>length_items W (h.next hW)
   have hsz:=h.sz nmI
   have hsD:sizD D nmI=(now D nmI).length:=by unfold sizD now; rw [hd]; rfl
   have HS:Hid (∀ W,Below w.heap.size w W→Calls Tryz.prog 151 #[.pointer (some ⟨p,0,none⟩),.string ⟨#[105,116,101,109,115]⟩] W fun e w'=>e = .returned (.int .i64 ((now D nmI).length:Int))∧w'=W):=fun W hW=>by
    have:=(h.next hW).size ⟨#[105,116,101,109,115]⟩ (by decide)
    rw [show (ByteArray.mk #[105,116,101,109,115]).data.toList=nmI from rfl,hsD] at this
    exact this
   obtain ⟨ls,hls⟩ : ∃ n,lst S.ends=n:=⟨_,rfl⟩
   obtain ⟨li,hli⟩ : ∃ n,(now D nmI).length=n:=⟨_,rfl⟩
   have hli2:li≤268435456:=by rw [← hli]; exact hsz
   rw [hls] at HL hlow
   rw [hli] at HS
   have ew1:IntKind.u64.wrap (ls:Int)=(ls:Int):=wrap_u _ (by omega) (by omega)
   have ew2:IntKind.u64.wrap (li:Int)=(li:Int):=wrap_u _ (by omega) (by omega)
   have CM:Hid (∀ w1 W,Below w.heap.size w w1→Below (w1.alloc (.cells #[.int .i64 m0,.int .u64 (m1:Int),.int .u64 (m2:Int),.int .u64 (m3:Int),.int .u32 (md:Int)] 239)).heap.size (w1.alloc (.cells #[.int .i64 m0,.int .u64 (m1:Int),.int .u64 (m2:Int),.int .u64 (m3:Int),.int .u32 (md:Int)] 239)) W→Below w.heap.size w W∧W.cell? ⟨w1.heap.size,0,none⟩=some (.int .i64 m0)∧W.cell? ⟨w1.heap.size,1,none⟩=some (.int .u64 (m1:Int))∧W.cell? ⟨w1.heap.size,2,none⟩=some (.int .u64 (m2:Int))∧W.cell? ⟨w1.heap.size,3,none⟩=some (.int .u64 (m3:Int))∧W.cell? ⟨w1.heap.size,4,none⟩=some (.int .u32 (md:Int))):=fun w1 W hb hW=>⟨bnext (bal hb _) hW,five_at ((hW.block w1.heap.size (by rw [al_size]; omega)).trans (new1 _ _))⟩
   have HE:=hide (And.intro e0 (And.intro e1 (And.intro e2 (And.intro e3 e4))))
   have HLs:=hide hls
   have HLi:=hide hli
   have HMk:=hide hm
   have HSk:=hide h
   clear e0 e1 e2 e3 e4 hls hli hm h hsD hsz hcs
   obtain ⟨o,ho⟩ : ∃ o,tkN S.k (now D nmI) (now D nmN) (S.ends,S.chain) row.data.toList=o:=⟨_,rfl⟩
   rw [ho] at HZ ⊢
   have HOo:=hide ho
   obtain ⟨n,hn⟩ : ∃ n,S.ends.length=n:=⟨_,rfl⟩
   rw [hn] at hB hB2 hf CQ
   have HNn:=hide hn
   have hB3:(n:Int)<65536:=by omega
   have HBn:=hide hB
   clear ho hn hB hf hB2
   go_enter Tryz.func154,Tryz.ntmps154
   go_upto_region 2 with (go_at_call 243; (with_reducible refine HM.out.mono ?_); rintro e w1 ⟨rfl,u1⟩; have cq:=(CQ.out _ u1).2; have cq2:=(CQ.out _ (bal u1 (.cells #[.int .i64 m0,.int .u64 (m1:Int),.int .u64 (m2:Int),.int .u64 (m3:Int),.int .u32 (md:Int)] 239))).2)
   have hB4:decide ((65536:Int)≤(n:Int))=false:=decide_eq_false (by omega)
   have hB5:decide (65536≤n)=false:=decide_eq_false HBn.out
   go_upto_region 5 with (go_at_call 155; (with_reducible refine (HL.out _ (bal u1 _)).mono ?_); rintro e w2 ⟨rfl,rfl⟩)
   have k2:=fun W=>CM.out w1 W u1
   obtain ⟨bm,hbm⟩ : ∃ b,w1.heap.size=b:=⟨_,rfl⟩
   have u2:=bal u1 (.cells #[.int .i64 m0,.int .u64 (m1:Int),.int .u64 (m2:Int),.int .u64 (m3:Int),.int .u32 (md:Int)] 239)
   rw [hbm] at k2 ⊢
   generalize w1.alloc (.cells #[.int .i64 m0,.int .u64 (m1:Int),.int .u64 (m2:Int),.int .u64 (m3:Int),.int .u32 (md:Int)] 239)=w2 at *
   have K2:=hide k2
   clear k2 CM cq cq2 hbm u1 HM
   by_cases hC:m2≤ls
   ·have hC1:decide ((m2:Int)≤(ls:Int))=true:=decide_eq_true (by omega)
    have hC2:decide (m2≤ls)=true:=decide_eq_true hC
    have HZ2:Hid (∀ W,Below w2.heap.size w2 W→TkQ w q p T D S o (.returned (.int .i64 190)) W):=fun W hW=>HZ.out W (K2.out W hW).1 (HOo.out.symm.trans (tkN_bad HMk.out (.inr (.inl (by rw [HE.out.2.2.1]; exact Nat.le_trans hC (Nat.le_of_eq HLs.out.symm))))))
    have ⟨uq,d0,d1,d2,d3,d4⟩:=K2.out w2 (Below.refl _ _)
    have q0:=(CQ.out _ u2).1
    go_quiet (first
      | (go_at_call 151; refine Calls.quiet_of_same (HS.out _ (K2.out _ (dN w2 _)).1)))
    all_goals
     go_wp2
     go_ret
     exact HZ2.out _ (dN w2 _)
   ·have hC1:decide ((m2:Int)≤(ls:Int))=false:=decide_eq_false (by omega)
    have hC2:decide (m2≤ls)=false:=decide_eq_false hC
    by_cases hD:li<m2
    ·have hD1:decide ((li:Int)<(m2:Int))=true:=decide_eq_true (by omega)
     have hD2:decide (li<m2)=true:=decide_eq_true hD
     have HZ2:Hid (∀ W,Below w2.heap.size w2 W→TkQ w q p T D S o (.returned (.int .i64 190)) W):=fun W hW=>HZ.out W (K2.out W hW).1 (HOo.out.symm.trans (tkN_bad HMk.out (.inr (.inr (.inl (by rw [HE.out.2.2.1,HLi.out]; exact hD))))))
     have ⟨uq,d0,d1,d2,d3,d4⟩:=K2.out w2 (Below.refl _ _)
     have q0:=(CQ.out _ u2).1
     go_quiet (first
      | (go_at_call 151; refine Calls.quiet_of_same (HS.out _ (K2.out _ (dN w2 _)).1)))
     all_goals
      go_wp2
      go_ret
      exact HZ2.out _ (dN w2 _)
    ·have hD1:decide ((li:Int)<(m2:Int))=false:=decide_eq_false (by omega)
     have hD2:decide (li<m2)=false:=decide_eq_false hD
     have ⟨uq,d0,d1,d2,d3,d4⟩:=K2.out w2 (Below.refl _ _)
     have q0:=(CQ.out _ u2).1
     go_quiet (first
      | (go_at_call 151; refine Calls.quiet_of_same (HS.out _ (K2.out _ (dN w2 _)).1)))
     have u3:=dN w2 nq
     generalize w2.drewN nq=w3 at *
     obtain ⟨pl,hpl⟩ : ∃ l,((now D nmI).drop ls).take (m2 - ls)=l:=⟨_,rfl⟩
     have hpz:pl.length=m2 - ls:=by rw [← hpl,List.length_take,List.length_drop,HLi.out]; omega
     have hpc:((now D nmI).drop (lst (S.ends,S.chain).1)).take (m.items - lst (S.ends,S.chain).1)=pl:=by rw [← hpl,HE.out.2.2.1]; show List.take (m2 - lst S.ends) (List.drop (lst S.ends) _)=_; rw [HLs.out]
     have HR:Hid (∀ W,Below w2.heap.size w2 W→Calls Tryz.prog 143 #[.pointer (some ⟨q,0,none⟩),.string ⟨#[105,116,101,109,115]⟩,.int .i64 (ls:Int),.int .i64 ((m2:Int) - (ls:Int))] W fun e w'=>e = .returned (.tuple #[.string (tx pl),.int .i64 0])∧Below w2.heap.size w2 w'):=fun W hW=>by
      have h1:=rdS_row hd nmI ls (m2 - ls)
      rw [HLi.out,if_pos (by omega),hpl] at h1
      rw [show (m2:Int) - (ls:Int)=((m2 - ls:Nat):Int) by omega]
      exact (fread_any W (HSk.out.next (K2.out W hW).1) ⟨#[105,116,101,109,115]⟩ (by decide) _ _ (by omega) (by omega) (by omega) (by omega) (tx pl) 0 (by rw [show (ByteArray.mk #[105,116,101,109,115]).data.toList=nmI from rfl,h1]) (by rw [show (ByteArray.mk #[105,116,101,109,115]).data.toList=nmI from rfl,h1])).mono fun e w' z=>⟨z.1,bnext hW z.2⟩
     have ew3:IntKind.i64.wrap (m2:Int)=(m2:Int):=by rw [IntKind.wrap_i64]; omega
     have ew4:IntKind.i64.wrap ((m2:Int) - (ls:Int))=(m2:Int) - (ls:Int):=by rw [IntKind.wrap_i64]; omega
     have ⟨_,_,_,c2,_,_⟩:=K2.out w3 u3
     clear d0 d1 d2 d3 d4 q0 uq HS HL hC1 hC2 hD1 hD2 hB4 hB5
     by_cases hW:whl pl=false
     ·have HWh:Hid (∀ W,Calls Tryz.prog 144 #[.string (tx pl)] W fun e w'=>e = .returned (.tuple #[.string (whT pl),.bool false])∧Below W.heap.size W w'):=fun W=>whole_any W (tx pl) (by rw [tx_size]; omega) false hW _ rfl
      have HZ2:Hid (∀ W,Below w2.heap.size w2 W→TkQ w q p T D S o (.returned (.int .i64 190)) W):=fun W hW'=>HZ.out W (K2.out W hW').1 (HOo.out.symm.trans (tkN_bad HMk.out (.inr (.inr (.inr (by rw [hpc]; exact hW))))))
      clear hpc hpl HSk HE HLs HLi HMk
      generalize tx pl=tp at *
      generalize whT pl=tw at *
      go_wp2_with (first
       | (go_at_call 143; (with_reducible refine (HR.out _ u3).mono ?_); rintro e w4 ⟨rfl,u4⟩)
       | (go_at_call 144; (with_reducible refine (HWh.out _).mono ?_); rintro e w5 ⟨rfl,u5⟩))
      go_ret
      exact HZ2.out _ (bnext u4 u5)
     ·have HWh:Hid (∀ W,Calls Tryz.prog 144 #[.string (tx pl)] W fun e w'=>e = .returned (.tuple #[.string (whT pl),.bool true])∧Below W.heap.size W w'):=fun W=>whole_any W (tx pl) (by rw [tx_size]; omega) true (by show whl pl=true; simpa using hW) _ rfl
      have HNn2:Hid (∀ W,Below w2.heap.size w2 W→Calls Tryz.prog 244 #[.pointer (some ⟨q,0,none⟩)] W (RnQ W (rdN S.k (now D nmN) (nn S.ends.length) (nn (S.ends.length+1) - nn S.ends.length)))):=fun W hW'=>newnodes_any W (HSk.out.next (K2.out W hW').1) hd (by rw [HNn.out]; omega)
      cases hN:rdN S.k (now D nmN) (nn S.ends.length) (nn (S.ends.length+1) - nn S.ends.length) with
      | none =>
       rw [hN] at HNn2
       have HNo:Hid (∀ W,Below w2.heap.size w2 W→Calls Tryz.prog 244 #[.pointer (some ⟨q,0,none⟩)] W fun e w'=>e = .returned (.tuple #[.slice none 0 0,.int .i64 190])∧Below w2.heap.size w2 w'):=fun W hW'=>(HNn2.out W hW').mono fun e w' z=>⟨z.2,bnext hW' z.1⟩
       have HZ2:Hid (∀ W,Below w2.heap.size w2 W→TkQ w q p T D S o (.returned (.int .i64 190)) W):=fun W hW'=>HZ.out W (K2.out W hW').1 (HOo.out.symm.trans (tkN_nodes HMk.out hN))
       clear hpc hpl HSk HE HLs HLi HMk HNn2 hN
       generalize tx pl=tp at *
       generalize whT pl=tw at *
       go_wp2_with (first
        | (go_at_call 143; (with_reducible refine (HR.out _ u3).mono ?_); rintro e w4 ⟨rfl,u4⟩)
        | (go_at_call 144; (with_reducible refine (HWh.out _).mono ?_); rintro e w5 ⟨rfl,u5⟩)
        | (go_at_call 244; (with_reducible refine (HNo.out _ (bnext u4 u5)).mono ?_); rintro e w6 ⟨rfl,u6⟩))
       go_ret
       exact HZ2.out _ u6
      | some rows =>
       rw [hN] at HNn2
       obtain ⟨hrl,hrs⟩:=rdN_len _ _ _ hN
       obtain ⟨rl,hrl2⟩ : ∃ n,rows.length=n:=⟨_,rfl⟩
       have HNo:Hid (∀ W,Below w2.heap.size w2 W→Calls Tryz.prog 244 #[.pointer (some ⟨q,0,none⟩)] W fun e w' => ∃ va vc,e = .returned (.tuple #[.slice va rl vc,.int .i64 0])∧Rc.OwnS w' W.heap.size (.slice va rl vc) rows∧Below w2.heap.size w2 w'):=fun W hW'=>(HNn2.out W hW').mono fun e w' z=>by
        obtain ⟨z1,va,vc,z2,z3⟩:=z
        rw [hrl2] at z2 z3
        exact ⟨va,vc,z2,z3,bnext hW' z1⟩
       obtain ⟨m',hm'⟩ : ∃ m',nxM S.k S.ends S.chain pl rows=m':=⟨_,rfl⟩
       have htk:tkN S.k (now D nmI) (now D nmN) (S.ends,S.chain) row.data.toList=if m=m' then some (S.ends++[m.items],m.chain) else none:=by
        have hcc : ¬ (65536≤(S.ends,S.chain).1.length∨m.items≤lst (S.ends,S.chain).1∨(now D nmI).length<m.items∨whl (((now D nmI).drop (lst (S.ends,S.chain).1)).take (m.items - lst (S.ends,S.chain).1))=false):=by
         rw [hpc,HE.out.2.2.1,HLi.out]
         show ¬ (65536≤S.ends.length∨m2≤lst S.ends∨li<m2∨whl pl=false)
         rw [HLs.out,HNn.out]
         have:=HBn.out
         simp only [not_or]
         exact ⟨this,hC,hD,hW⟩
        rw [tkN_all HMk.out hcc hN,hpc,← hm']
       have HNx:Hid (∀ w6 va vc B,Below w2.heap.size w2 w6→Rc.OwnS w6 B (.slice va rl vc) rows → ∀ W,Below w6.heap.size w6 W→Calls Tryz.prog 169 #[.pointer (some ⟨q,0,none⟩),.string (tx pl),.slice va rl vc] W fun e w'=>e = .returned (.agg (mC m'))∧Below w6.heap.size w6 w'):=fun w6 va vc B u6 o6 W hW'=>by
        obtain ⟨va',rb,vc',hv,rds,_,_⟩:=Rc.owns_rds o6 (fun s hs=>by rw [hrs s hs]; omega)
        injection hv with e1 e2 e3
        subst e1 e3
        rw [hrl2] at rds
        exact (fnext_any W (HSk.out.next (K2.out W (bnext u6 hW')).1) (tx pl) (by rw [tx_size]; omega) va rb 0 rl vc rows (rds.next hW' (Nat.le_refl _)) (by have:=nn_mono S.ends.length (by rw [HNn.out]; omega); omega) m' hm').mono fun e w' z=>⟨z.1,bnext hW' z.2⟩
       by_cases hE:m=m'
       ·rw [if_pos hE] at htk
        subst hE
        have HTk:Hid (∀ W,Below w2.heap.size w2 W→Calls Tryz.prog 179 #[.pointer (some ⟨q,0,none⟩),.agg #[.int .i64 m0,.int .u64 (m1:Int),.int .u64 (m2:Int),.int .u64 (m3:Int),.int .u32 (md:Int)]] W fun e w'=>e = .returned (.tuple #[])∧TkQ w q p T D S o (.returned (.int .i64 0)) w'):=fun W hW'=>by
         have:=take_any W (HSk.out.next (K2.out W hW').1) m (by rw [HE.out.2.2.1]; omega) (by rw [HNn.out]; omega)
         rw [mC,HE.out.1,HE.out.2.1,HE.out.2.2.1,HE.out.2.2.2.1,HE.out.2.2.2.2] at this
         refine this.mono fun e w' z=>⟨z.1,?_⟩
         rw [← HOo.out,htk,HE.out.2.2.1]
         exact ⟨rfl,z.2.first (K2.out W hW').1⟩
        rw [mC,HE.out.1,HE.out.2.1,HE.out.2.2.1,HE.out.2.2.2.1,HE.out.2.2.2.2] at HNx
        clear hpc hpl HSk HE HLs HLi HMk HNn2 hN htk hrs hrl hrl2 hW
        generalize tx pl=tp at *
        generalize whT pl=tw at *
        go_upto_region 16 with (first
         | (go_at_call 143; (with_reducible refine (HR.out _ u3).mono ?_); rintro e w4 ⟨rfl,u4⟩)
         | (go_at_call 144; (with_reducible refine (HWh.out _).mono ?_); rintro e w5 ⟨rfl,u5⟩)
         | (go_at_call 244; (with_reducible refine (HNo.out _ (bnext u4 u5)).mono ?_); rintro e w6 ⟨va,vc,rfl,o6,u6⟩))
        have HN6:=hide (fun W hW=>HNx.out w6 va vc _ u6 o6 W hW)
        have u:=bdz w6
        have ⟨c20,c21,c22,c23,c24⟩:=(K2.out w6 u6).2
        go_region_held3 (fun Z=>Z.cell? ⟨bm,0,none⟩=some (.int .i64 m0)∧Z.cell? ⟨bm,1,none⟩=some (.int .u64 (m1:Int))∧Z.cell? ⟨bm,2,none⟩=some (.int .u64 (m2:Int))∧Z.cell? ⟨bm,3,none⟩=some (.int .u64 (m3:Int))∧Z.cell? ⟨bm,4,none⟩=some (.int .u32 (md:Int))) (first | assumption | (with_reducible exact (K2.out _ (bnext u6 u)).2)) (first
         | (go_at_call 169; (with_reducible refine (HN6.out _ u).mono ?_); rintro e w7 ⟨rfl,u⟩))
        all_goals
         have u7:=bnext u6 u
         have ⟨y20,y21,y22,y23,y24⟩:=(K2.out _ u7).2
         go_wp2_with (go_at_call 179; (with_reducible refine (HTk.out _ u7).mono ?_); rintro e w8 ⟨rfl,t8⟩)
         go_ret
         exact t8
       ·rw [if_neg hE] at htk
        have HZ2:Hid (∀ W,Below w2.heap.size w2 W→TkQ w q p T D S o (.returned (.int .i64 190)) W):=fun W hW'=>HZ.out W (K2.out W hW').1 (HOo.out.symm.trans htk)
        obtain ⟨n0,f0⟩ : ∃ x,m'.k=x:=⟨_,rfl⟩
        obtain ⟨n1,f1⟩ : ∃ x,m'.size=x:=⟨_,rfl⟩
        obtain ⟨n2,f2⟩ : ∃ x,m'.items=x:=⟨_,rfl⟩
        obtain ⟨n3,f3⟩ : ∃ x,m'.nodes=x:=⟨_,rfl⟩
        obtain ⟨nd,f4⟩ : ∃ x,m'.chain.toNat=x:=⟨_,rfl⟩
        have hne : ¬ (m0=n0∧m1=n1∧m2=n2∧m3=n3∧md=nd):=fun ⟨a0,a1,a2,a3,a4⟩=>hE (MV.ext' (by rw [HE.out.1,f0,a0]) (by rw [HE.out.2.1,f1,a1]) (by rw [HE.out.2.2.1,f2,a2]) (by rw [HE.out.2.2.2.1,f3,a3]) (BitVec.eq_of_toNat_eq (by rw [HE.out.2.2.2.2,f4,a4])))
        rw [mC,f0,f1,f2,f3,f4] at HNx
        clear f0 f1 f2 f3 f4 hm' hE
        clear hpc hpl HSk HE HLs HLi HMk HNn2 hN htk hrs hrl hrl2 hW
        generalize tx pl=tp at *
        generalize whT pl=tw at *
        go_upto_region 16 with (first
         | (go_at_call 143; (with_reducible refine (HR.out _ u3).mono ?_); rintro e w4 ⟨rfl,u4⟩)
         | (go_at_call 144; (with_reducible refine (HWh.out _).mono ?_); rintro e w5 ⟨rfl,u5⟩)
         | (go_at_call 244; (with_reducible refine (HNo.out _ (bnext u4 u5)).mono ?_); rintro e w6 ⟨va,vc,rfl,o6,u6⟩))
        have HN6:=hide (fun W hW=>HNx.out w6 va vc _ u6 o6 W hW)
        have u:=bdz w6
        have ⟨c20,c21,c22,c23,c24⟩:=(K2.out w6 u6).2
        rcases (show ¬ m0=n0∨(m0=n0 ∧ ¬ m1=n1)∨(m0=n0∧m1=n1 ∧ ¬ m2=n2)∨(m0=n0∧m1=n1∧m2=n2 ∧ ¬ m3=n3)∨(m0=n0∧m1=n1∧m2=n2∧m3=n3 ∧ ¬ md=nd) by omega) with g | ⟨rfl,g⟩ | ⟨rfl,rfl,g⟩ | ⟨rfl,rfl,rfl,g⟩ | ⟨rfl,rfl,rfl,rfl,g⟩
        ·have g1:(m0 == n0)=false:=by simp; omega
         clear hne
         go_region_held3 (fun Z=>Z.cell? ⟨bm,0,none⟩=some (.int .i64 m0)∧Z.cell? ⟨bm,1,none⟩=some (.int .u64 (m1:Int))∧Z.cell? ⟨bm,2,none⟩=some (.int .u64 (m2:Int))∧Z.cell? ⟨bm,3,none⟩=some (.int .u64 (m3:Int))∧Z.cell? ⟨bm,4,none⟩=some (.int .u32 (md:Int))) (first | assumption | (with_reducible exact (K2.out _ (bnext u6 u)).2)) (first
          | (go_at_call 169; (with_reducible refine (HN6.out _ u).mono ?_); rintro e w7 ⟨rfl,u⟩))
         all_goals
          have u7:=bnext u6 u
          go_wp2
          go_ret
          exact HZ2.out _ u7
        ·have g1:((m1:Int) == (n1:Int))=false:=by simp; omega
         have g2:(m1 == n1)=false:=by simpa using g
         have g3 : ¬ (m1:Int)=(n1:Int):=by omega
         clear hne
         go_region_held3 (fun Z=>Z.cell? ⟨bm,0,none⟩=some (.int .i64 m0)∧Z.cell? ⟨bm,1,none⟩=some (.int .u64 (m1:Int))∧Z.cell? ⟨bm,2,none⟩=some (.int .u64 (m2:Int))∧Z.cell? ⟨bm,3,none⟩=some (.int .u64 (m3:Int))∧Z.cell? ⟨bm,4,none⟩=some (.int .u32 (md:Int))) (first | assumption | (with_reducible exact (K2.out _ (bnext u6 u)).2)) (first
          | (go_at_call 169; (with_reducible refine (HN6.out _ u).mono ?_); rintro e w7 ⟨rfl,u⟩))
         all_goals
          have u7:=bnext u6 u
          go_wp2
          go_ret
          exact HZ2.out _ u7
        ·have g1:((m2:Int) == (n2:Int))=false:=by simp; omega
         have g2:(m2 == n2)=false:=by simpa using g
         have g3 : ¬ (m2:Int)=(n2:Int):=by omega
         clear hne
         go_region_held3 (fun Z=>Z.cell? ⟨bm,0,none⟩=some (.int .i64 m0)∧Z.cell? ⟨bm,1,none⟩=some (.int .u64 (m1:Int))∧Z.cell? ⟨bm,2,none⟩=some (.int .u64 (m2:Int))∧Z.cell? ⟨bm,3,none⟩=some (.int .u64 (m3:Int))∧Z.cell? ⟨bm,4,none⟩=some (.int .u32 (md:Int))) (first | assumption | (with_reducible exact (K2.out _ (bnext u6 u)).2)) (first
          | (go_at_call 169; (with_reducible refine (HN6.out _ u).mono ?_); rintro e w7 ⟨rfl,u⟩))
         all_goals
          have u7:=bnext u6 u
          go_wp2
          go_ret
          exact HZ2.out _ u7
        ·have g1:((m3:Int) == (n3:Int))=false:=by simp; omega
         have g2:(m3 == n3)=false:=by simpa using g
         have g3 : ¬ (m3:Int)=(n3:Int):=by omega
         clear hne
         go_region_held3 (fun Z=>Z.cell? ⟨bm,0,none⟩=some (.int .i64 m0)∧Z.cell? ⟨bm,1,none⟩=some (.int .u64 (m1:Int))∧Z.cell? ⟨bm,2,none⟩=some (.int .u64 (m2:Int))∧Z.cell? ⟨bm,3,none⟩=some (.int .u64 (m3:Int))∧Z.cell? ⟨bm,4,none⟩=some (.int .u32 (md:Int))) (first | assumption | (with_reducible exact (K2.out _ (bnext u6 u)).2)) (first
          | (go_at_call 169; (with_reducible refine (HN6.out _ u).mono ?_); rintro e w7 ⟨rfl,u⟩))
         all_goals
          have u7:=bnext u6 u
          go_wp2
          go_ret
          exact HZ2.out _ u7
        ·have g1:((md:Int) == (nd:Int))=false:=by simp; omega
         have g2:(md == nd)=false:=by simpa using g
         have g3 : ¬ (md:Int)=(nd:Int):=by omega
         clear hne
         go_region_held3 (fun Z=>Z.cell? ⟨bm,0,none⟩=some (.int .i64 m0)∧Z.cell? ⟨bm,1,none⟩=some (.int .u64 (m1:Int))∧Z.cell? ⟨bm,2,none⟩=some (.int .u64 (m2:Int))∧Z.cell? ⟨bm,3,none⟩=some (.int .u64 (m3:Int))∧Z.cell? ⟨bm,4,none⟩=some (.int .u32 (md:Int))) (first | assumption | (with_reducible exact (K2.out _ (bnext u6 u)).2)) (first
          | (go_at_call 169; (with_reducible refine (HN6.out _ u).mono ?_); rintro e w7 ⟨rfl,u⟩))
         all_goals
          have u7:=bnext u6 u
          go_wp2
          go_ret
          exact HZ2.out _ u7
end
theorem tkA_none {k:Nat} {a b m:List UInt8} {j:Nat} (h:tkA k a b m j=none) : ∀ i,j≤i→tkA k a b m i=none:=fun i hi=>by
 induction i with
 | zero => obtain rfl : j = 0 := by omega
           exact h
 | succ i ih =>
  by_cases e:j=i+1
  ·rw [← e]; exact h
  ·rw [tkA,ih (by omega)]
theorem cntM_le (m:List UInt8):cntM m≤m.length / 64:=by unfold cntM; split <;> omega
theorem cntM_step {m:List UInt8} {i:Nat} (hi:i<m.length / 64) (hr : ¬ (i=m.length / 64 - 1∧rowM m i=zer 64)):i+1≤cntM m:=by
 unfold cntM
 split
 ·rename_i h
  by_cases e:i=m.length / 64 - 1
  ·exact absurd ⟨e,by rw [e]; exact h.2⟩ hr
  ·omega
 ·omega
theorem cntM_zero {m:List UInt8} {i:Nat} (hi:i<m.length / 64) (e:i=m.length / 64 - 1) (hr:rowM m i=zer 64):cntM m=i:=by
 unfold cntM
 rw [if_pos ⟨by omega,by rw [← e]; exact hr⟩]; exact e.symm
def TaQ (w:World) (q p:Nat) (T:Nat→Prop) (D:DV) (S:SV) (o:Option (List Nat×BitVec 32)) (e:Ending) (w':World):Prop:=match o with
 | none=>e = .returned (.int .i64 190) ∧ ∃ S',SkM w w' q p T D S'
 | some st=>e = .returned (.int .i64 0)∧SkM w w' q p T D { S with ends:=st.1,chain:=st.2 }
section
variable {q p:Nat} {T:Nat→Prop} {D:DV} {S:SV}
set_option maxRecDepth 100000 in
set_option maxHeartbeats 4000000 in
theorem takeall_any (w:World) (h:Sk w q p T D S) (hd:D.down=false) (h0:S.ends=[]) (hc0:S.chain=0#32) :
  Calls Tryz.prog 92 #[.pointer (some ⟨q,0,none⟩)] w (TaQ w q p T D S (tkAll S.k (now D nmI) (now D nmN) (now D nmM))):=by
 have hsz:=h.sz nmM
 have hsD:sizD D nmM=(now D nmM).length:=by unfold sizD now; rw [hd]; rfl
 have HS:Hid (Calls Tryz.prog 151 #[.pointer (some ⟨p,0,none⟩),.string ⟨#[109,97,114,107,115]⟩] w fun e w'=>e = .returned (.int .i64 ((now D nmM).length:Int))∧w'=w):=by
  have:=h.size ⟨#[109,97,114,107,115]⟩ (by decide)
  rw [show (ByteArray.mk #[109,97,114,107,115]).data.toList=nmM from rfl,hsD] at this
  exact this
 obtain ⟨_,_,⟨c0,_⟩,_⟩:=h.cells
 obtain ⟨M,hM⟩ : ∃ M,now D nmM=M:=⟨_,rfl⟩
 have hrow:=fun i=>rdS_row hd nmM (i * 64) 64
 rw [hM] at HS hrow ⊢
 have hMl:M.length≤268435456:=by rw [← hM]; exact hsz
 obtain ⟨c,hc⟩ : ∃ c,M.length / 64=c:=⟨_,rfl⟩
 have hq:Int.tdiv (M.length:Int) 64=(c:Int):=by rw [← hc]; rfl
 have HRd:Hid (∀ wr S',SkM w wr q p T D S' → ∀ i:Nat,i<c→Calls Tryz.prog 152 #[.pointer (some ⟨p,0,none⟩),.string ⟨#[109,97,114,107,115]⟩,.int .i64 ((i:Int) * 64),.int .i64 64] wr fun e w'=>e = .returned (.tuple #[.string (tx (rowM M i)),.int .i64 0])∧Below wr.heap.size wr w'):=fun wr S' hS i hi=>by
  obtain ⟨T1,hk,_,_⟩:=hS
  have:=hk.read ⟨#[109,97,114,107,115]⟩ (by decide) ((i:Int) * 64) 64 (by omega) (by omega) (by omega) (by omega)
  have h1:=hrow i
  rw [if_pos (by omega)] at h1
  unfold rdS at h1
  rw [show (ByteArray.mk #[109,97,114,107,115]).data.toList=nmM from rfl,show (i:Int) * 64=((i * 64:Nat):Int) by omega] at this
  rw [show (i:Int) * 64=((i * 64:Nat):Int) by omega]
  split at h1
  ·injection h1 with _ h1; cases h1
  ·rw [show ((64:Nat):Int)=64 from rfl] at h1
   rw [h1] at this
   rw [rowM,Nat.mul_comm 64 i]
   exact this
 have HTk:Hid (∀ wr st i,SkM w wr q p T D { S with ends:=st.1,chain:=st.2 } → Calls Tryz.prog 154 #[.pointer (some ⟨q,0,none⟩),.string (tx (rowM M i))] wr fun e w'=>(tkN S.k (now D nmI) (now D nmN) st (rowM M i)=none∧e = .returned (.int .i64 190) ∧ ∃ S',SkM w w' q p T D S')∨(∃ st',tkN S.k (now D nmI) (now D nmN) st (rowM M i)=some st'∧e = .returned (.int .i64 0)∧SkM w w' q p T D { S with ends:=st'.1,chain:=st'.2 })):=fun wr st i hS=>by
  obtain ⟨T1,hk,hT,hu⟩:=hS
  refine (takenext_any wr hk hd (tx (rowM M i))).mono fun e w' z => ?_
  rw [tx_data] at z
  change TkQ wr q p T1 D _ (tkN S.k (now D nmI) (now D nmN) (st.1,st.2) (rowM M i)) e w' at z
  cases ht:tkN S.k (now D nmI) (now D nmN) (st.1,st.2) (rowM M i) with
  | none =>
   rw [ht] at z
   exact .inl ⟨rfl,z.1,_,skm_join hT hu z.2⟩
  | some st' =>
   rw [ht] at z
   exact .inr ⟨st',rfl,z.1,skm_join hT hu z.2⟩
 have HC:Hid (∀ wr S',SkM w wr q p T D S'→wr.cell? ⟨q,0,none⟩=some (.pointer (some ⟨p,0,none⟩))):=fun wr S' hS=>by
  obtain ⟨T1,hk,_,_⟩:=hS
  obtain ⟨_,_,⟨c0,_⟩,_⟩:=hk.cells
  exact c0
 have HN:Hid (∀ i W b,decide (rowM M i=zer 64)=b→Calls Tryz.prog 153 #[.string (tx (rowM M i))] W fun e w'=>e = .returned (.bool b)∧Below W.heap.size W w'):=fun i W b hb=>isnone_any W (tx (rowM M i)) b hb
 obtain ⟨o,ho⟩ : ∃ o,tkAll S.k (now D nmI) (now D nmN) M=o:=⟨_,rfl⟩
 have HA:Hid (∀ j,tkA S.k (now D nmI) (now D nmN) M j=none→j≤cntM M→o=none):=fun j h1 h2=>by rw [← ho]; exact tkA_none h1 _ h2
 have HA2:Hid (∀ j st,tkA S.k (now D nmI) (now D nmN) M j=some st→cntM M=j→o=some st):=fun j st h1 h2=>by rw [← ho,tkAll,h2]; exact h1
 rw [ho]
 have HS0:Hid (SkM w w q p T D { S with ends:=[],chain:=0#32 }):=by
  have:({ S with ends:=[],chain:=0#32 } : SV)=S:=by rw [← h0,← hc0]
  rw [this]; exact SkM.of h (Below.refl _ _)
 have HCl:=hide (cntM_le M)
 rw [hc] at HCl
 have HCs:Hid (∀ i,i<c → ¬ (i=c - 1∧rowM M i=zer 64)→i+1≤cntM M):=fun i h1 h2=>cntM_step (by rw [hc]; exact h1) (by rw [hc]; exact h2)
 have HCz:Hid (∀ i,i<c→i=c - 1→rowM M i=zer 64→cntM M=i):=fun i h1 h2 h3=>cntM_zero (by rw [hc]; exact h1) (by rw [hc]; exact h2) h3
 have hcb:c≤4194304:=by omega
 clear h h0 hc0 hsz hsD hM hrow ho hc
 generalize M.length=ml at *
 go_enter Tryz.func92,Tryz.ntmps92
 go_wp2_with (go_at_call 151; (with_reducible refine HS.out.mono ?_); rintro e w1 ⟨rfl,rfl⟩)
 go_loopg [15] c (fun g x wr => ∃ (i:Nat) (st:List Nat×BitVec 32),i≤c∧i≤cntM M∧g=c - i∧x = .int .i64 (i:Int)∧Hid (tkA S.k (now D nmI) (now D nmN) M i=some st)∧Hid (SkM w1 wr q p T D { S with ends:=st.1,chain:=st.2 }))
 case atStart =>
  go_light
  exact ⟨0,([],0#32),Nat.zero_le _,Nat.zero_le _,rfl,rfl,rfl,HS0⟩
 case round =>
  obtain ⟨i,st,hi,hic,rfl,rfl,HI,HT⟩:=hrel
  clear HS0
  have c0:=HC.out _ _ HT.out
  by_cases hlt:i<c
  ·have hz:(i:Int)<(c:Int):=by omega
   have ew1:IntKind.i64.wrap ((i:Int) * 64)=(i:Int) * 64:=by rw [IntKind.wrap_i64]; omega
   have ew2:IntKind.i64.wrap ((c:Int) - 1)=(c:Int) - 1:=by rw [IntKind.wrap_i64]; omega
   have ew3:IntKind.i64.wrap ((i:Int)+1)=(i:Int)+1:=by rw [IntKind.wrap_i64]; omega
   by_cases hl:i=c - 1
   ·have hl1:((i:Int) == (c:Int) - 1)=true:=by simp; omega
    have HLl:=hide hl
    clear hl
    by_cases hzr:rowM M i=zer 64
    ·have HN2:=hide (fun W=>HN.out i W true (decide_eq_true hzr))
     have HZ:Hid (∀ W W',Below wr.heap.size wr W→Below W.heap.size W W'→TaQ w1 q p T D S o (.returned (.int .i64 0)) W'):=fun W W' h1 h2=>by
      rw [HA2.out i st HI.out (HCz.out i hlt HLl.out hzr)]
      exact ⟨rfl,(HT.out.last h1).last h2⟩
     clear hzr HN
     go_wp2_with (first
      | (go_at_call 152; (with_reducible refine (HRd.out _ _ HT.out _ hlt).mono ?_); rintro e w2 ⟨rfl,u2⟩)
      | (go_at_call 153; (with_reducible refine (HN2.out _).mono ?_); rintro e w3 ⟨rfl,u3⟩))
     go_ret
     exact HZ.out _ _ u2 u3
    ·have HN2:=hide (fun W=>HN.out i W false (decide_eq_false hzr))
     have hle:i+1≤cntM M:=HCs.out i hlt (fun h=>hzr h.2)
     clear hzr HN
     go_wp2_with (first
      | (go_at_call 152; (with_reducible refine (HRd.out _ _ HT.out _ hlt).mono ?_); rintro e w2 ⟨rfl,u2⟩)
      | (go_at_call 153; (with_reducible refine (HN2.out _).mono ?_); rintro e w3 ⟨rfl,u3⟩)
      | (go_at_call 154; (with_reducible refine (HTk.out _ _ _ ((HT.out.last u2).last u3)).mono ?_); rintro e w4 (⟨h4,rfl,S4,t4⟩ | ⟨st4,h4,rfl,t4⟩)))
     ·have HZ:Hid (TaQ w1 q p T D S o (.returned (.int .i64 190)) w4):=by
       rw [HA.out (i+1) (by rw [tkA,HI.out]; exact h4) hle]
       exact ⟨rfl,S4,t4⟩
      clear h4
      go_wp2
      go_ret
      exact HZ.out
     ·have HI2:Hid (tkA S.k (now D nmI) (now D nmN) M (i+1)=some st4):=by show _=_; rw [tkA,HI.out]; exact h4
      clear h4
      go_wp2
      go_roundg (c - (i+1))
      case rel =>
       go_light
       exact ⟨i+1,st4,by omega,hle,rfl,by go_num,HI2,t4⟩
      case measure=>go_light; omega
   ·have hl1:((i:Int) == (c:Int) - 1)=false:=by simp; omega
    have hl2 : ¬ (i:Int)=(c:Int) - 1:=by omega
    have hle:i+1≤cntM M:=HCs.out i hlt (fun h=>hl h.1)
    go_wp2_with (first
     | (go_at_call 152; (with_reducible refine (HRd.out _ _ HT.out _ hlt).mono ?_); rintro e w2 ⟨rfl,u2⟩)
     | (go_at_call 154; (with_reducible refine (HTk.out _ _ _ (HT.out.last u2)).mono ?_); rintro e w4 (⟨h4,rfl,S4,t4⟩ | ⟨st4,h4,rfl,t4⟩)))
    ·have HZ:Hid (TaQ w1 q p T D S o (.returned (.int .i64 190)) w4):=by
      rw [HA.out (i+1) (by rw [tkA,HI.out]; exact h4) hle]
      exact ⟨rfl,S4,t4⟩
     clear h4
     go_wp2
     go_ret
     exact HZ.out
    ·have HI2:Hid (tkA S.k (now D nmI) (now D nmN) M (i+1)=some st4):=by show _=_; rw [tkA,HI.out]; exact h4
     clear h4
     go_wp2
     go_roundg (c - (i+1))
     case rel =>
      go_light
      exact ⟨i+1,st4,by omega,hle,rfl,by go_num,HI2,t4⟩
     case measure=>go_light; omega
  ·have hz : ¬ (i:Int)<(c:Int):=by omega
   have HZ:Hid (TaQ w1 q p T D S o (.returned (.int .i64 0)) wr):=by
    rw [HA2.out i st HI.out (by have:=HCl.out; omega)]
    exact ⟨rfl,HT.out⟩
   go_wp2
   go_ret
   exact HZ.out
end
end Go.Proofs.YtoblgjledefdbaaGreatDoor.St
