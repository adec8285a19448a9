/- Own work. -/
import Derived.Test.YtipcenbndhnnhaaGreatDoorQc42
import Derived.Test.YtipcenbndhnnhaaGreatDoorQc43
namespace Go.Proofs.YtipcenbndhnnhaaGreatDoor
open Go.RowKit
open Cv (zl)
attribute [local go_sem ↓] Go.wp_at_zero Go.wp_at_succ
theorem rmount_rd (n:Nat) (w:World) (hn:n≤2^40) (M:List (Nat×Nat)) (hM:Cv.dnL 41 0 n=M) (h0:0<n) :
  Calls Tryz.prog 86 #[.int .u64 (n:Int)] w fun e w' => ∃ g cap,e = .returned (.slice (some ⟨g,0,none⟩) M.length cap)∧RdB w' (some ⟨g,0,none⟩) g 0 M.length (zl M)∧Below w.heap.size w w':=by
 have hin:=dn_in n hn
 rw [hM] at hin
 have:=rmount_any n w hn
 rw [hM] at this
 refine this.mono fun x w' ⟨v,e1,e2,e3⟩ => ?_
 have hne:0<(zl M).length:=by
  obtain ⟨A,H,B,hw⟩:=wy_ex n 0 hn h0
  rw [Cv.zl_len,← hM,hw.all,List.length_append,List.length_cons]; omega
 obtain ⟨ao,g,m,cap,rfl,r1,r2⟩:=own_rdB e2 (fun b hb=>by
  obtain ⟨c,hc,rfl⟩:=List.mem_map.1 hb
  exact (fit40 (hin c hc) hn).1)
 have hl:=r1.len
 subst hl
 obtain rfl:=r1.addr hne
 rw [Cv.zl_len] at e1 r1
 exact ⟨g,cap,e1,r1,e3⟩
theorem wy_where {n i H:Nat} {A B:List (Nat×Nat)} (hw:Wy n i A H B) {M:List (Nat×Nat)} (hM:Cv.dnL 41 0 n=M) {j:Nat} (hj:j<M.length) :
  (j<A.length→((M.getD j (0,0)).2+1) * 2^(M.getD j (0,0)).1≤i)∧(j=A.length→M.getD j (0,0)=(H,i / 2^H))∧(A.length<j→i<(M.getD j (0,0)).2 * 2^(M.getD j (0,0)).1):=by
 have hall:=hw.all
 rw [hM] at hall
 subst hall
 rw [List.length_append,List.length_cons] at hj
 refine ⟨fun h => ?_,fun h => ?_,fun h => ?_⟩
 ·rw [List.getD_eq_getElem?_getD,List.getElem?_append_left h,List.getElem?_eq_getElem h]
  exact hw.left _ (List.getElem_mem h)
 ·subst h
  rw [List.getD_eq_getElem?_getD,List.getElem?_append_right (Nat.le_refl _),Nat.sub_self]
  rfl
 ·obtain ⟨t,rfl⟩ : ∃ t,j=A.length+(t+1):=⟨j - A.length - 1,by omega⟩
  have ht:t<B.length:=by omega
  rw [List.getD_eq_getElem?_getD,List.getElem?_append_right (by omega),show A.length+(t+1) - A.length=t+1 by omega,List.getElem?_cons_succ,List.getElem?_eq_getElem ht]
  exact hw.right _ (List.getElem_mem ht)
set_option maxRecDepth 100000 in
set_option maxHeartbeats 2000000 in
theorem well_core (w:World) (k:Int) (size:Nat) (b o sc:Nat) (i H:Nat) (A B:List (Nat×Nat)) (ha:RA w k size b o i H A B) (da:Option Addr) (db dO dc:Nat) (D:List ByteArray) (hr:RdS w da db dO D.length D) (hm:D.length≤9223372036854775807) (r:Bool) (hq:decide (fil k (H+A.length+B.length) D)=r) :
  Calls Tryz.prog 85 #[.agg #[.int .i64 1,.int .i64 k,.int .u64 0,.int .u64 (size:Int),.slice (some ⟨b,o,none⟩) 1 sc,.slice da D.length dc]] w fun e w'=>e = .returned (.bool r)∧Below w.heap.size w w':=by
 have hi0:=ha.il
 have hn0:=ha.n
 have hk1:=ha.k1
 have hwy:=ha.wy
 have hln:=hwy.len
 have hH:=hwy.hH
 obtain ⟨M,hM⟩ : ∃ M,Cv.dnL 41 0 size=M:=⟨_,rfl⟩
 have hin:=dn_in size hn0
 rw [hM] at hin
 have hMl:M.length=A.length+1+B.length:=by rw [← hM,hwy.all,List.length_append,List.length_cons]; omega
 have HM:Hid (∀ W,Calls Tryz.prog 86 #[.int .u64 (size:Int)] W fun e w' => ∃ g cap,e = .returned (.slice (some ⟨g,0,none⟩) M.length cap)∧RdB w' (some ⟨g,0,none⟩) g 0 M.length (zl M)∧Below W.heap.size W w'):=fun W=>rmount_rd size W hn0 M hM (by omega)
 obtain ⟨W0,hW0⟩ : ∃ W0,w.alloc (.cells #[.int .i64 1,.int .i64 k,.int .u64 0,.int .u64 (size:Int),.slice (some ⟨b,o,none⟩) 1 sc,.slice da D.length dc] 38)=W0:=⟨_,rfl⟩
 have hb:Below w.heap.size w W0:=by rw [← hW0]; exact bal (Below.refl _ _) _
 have h6:Six W0 w.heap.size (.int .i64 1) (.int .i64 k) (.int .u64 0) (.int .u64 (size:Int)) (.slice (some ⟨b,o,none⟩) 1 sc) (.slice da D.length dc):=by rw [← hW0]; exact six_new w _ _ _ _ _ _
 have HS:Hid (∀ W,Below W0.heap.size W0 W→Six W w.heap.size (.int .i64 1) (.int .i64 k) (.int .u64 0) (.int .u64 (size:Int)) (.slice (some ⟨b,o,none⟩) 1 sc) (.slice da D.length dc)∧W.cell? ⟨b,o,none⟩=some (.int .u64 (i:Int))∧RdS W da db dO D.length D∧Below w.heap.size w W):=fun W hbW=>by
  have hw:=bnext hb hbW
  exact ⟨h6.next hbW,(hw.cell (p:=⟨b,o,none⟩) (World.block_lt_of_cell? w _ ha.ci)).trans ha.ci,hr.next hw (Nat.le_refl _),hw⟩
 have hd1:decide (k<1)=false:=decide_eq_false (by omega)
 have hd2:decide ((32:Int)<k)=false:=decide_eq_false (by omega)
 have hd3:decide ((1099511627776:Int)<(size:Int))=false:=decide_eq_false (by omega)
 have hd4:decide ((size:Int)≤(i:Int))=false:=decide_eq_false (by omega)
 have hd5:decide (size≤i)=false:=decide_eq_false (by omega)
 have HX:Hid (Wy size i A H B∧Cv.dnL 41 0 size=M∧M.length=A.length+1+B.length∧i<size∧size≤2^40∧A.length+B.length≤40∧H≤40∧(∀ b∈M,(b.2+1) * 2^b.1≤size)∧D.length≤9223372036854775807):=⟨hwy,hM,hMl,hi0,hn0,hln,hH,hin,hm⟩
 have HQ:=hide hq
 obtain ⟨e0,e1,e2,e3,e4,e5⟩:=h6.cells
 have ci:=(HS.out W0 (Below.refl _ _)).2.1
 have hl63:(M.length:Int)≤41:=by omega
 clear ha hr hm hi0 hn0 hk1 hwy hln hH hin hMl h6 hM hq
 go_enter Tryz.func85,Tryz.ntmps85
 go_upto_region 1 with (fail)
 try rw [hW0]
 clear hW0
 go_quiet (fail)
 obtain ⟨W1,hW1⟩ : ∃ W1,W0.drewN nq=W1:=⟨_,rfl⟩
 have hb1:Below W0.heap.size W0 W1:=by rw [← hW1]; exact below_drewN (Below.refl _ _) _
 rw [hW1]
 clear hW1 e0 e1 e2 e3 e4 e5 ci
 obtain ⟨e0,e1,e2,e3,e4,e5⟩:=(HS.out W1 hb1).1.cells
 go_wp2_with (go_at_call 86; with_reducible refine (HM.out _).mono ?_; rintro e w1 ⟨g,cap,rfl,hR,hbm⟩)
 have hb2:=bnext hb1 hbm
 have HR:Hid (∀ W,Below w1.heap.size w1 W→RdB W (some ⟨g,0,none⟩) g 0 M.length (zl M)):=fun W hb=>hR.below hb
 have HB1:=hide hb2
 clear hb1 hbm hR HM hb2 e0 e1 e2 e3 e4 e5
 go_loopg [4,5] M.length (fun gh n x wr => ∃ j:Nat,j≤M.length∧gh=M.length - j∧x = .int .i64 (j:Int)∧(∃ c:Nat,n = .int .i64 (c:Int)∧Hid (c=M.length - 1+(if A.length<j then H else 0)))∧Below w1.heap.size w1 wr)
 case atStart =>
  go_light
  exact ⟨0,Nat.zero_le _,rfl,rfl,⟨M.length - 1,by have:=HX.out.2.2.1; rw [show ((M.length - 1:Nat):Int)=(M.length:Int) - 1 by omega],by show _=_; rw [if_neg (by omega)]; rfl⟩,Below.refl _ _⟩
 case round =>
  obtain ⟨j,hj,rfl,rfl,⟨c,rfl,Hc⟩,hb⟩:=hrel
  obtain ⟨hx1,hx2,hx3,hx4,hx5,hx6,hx7,hx8,hx9⟩:=HX.out
  by_cases hlt:j<M.length
  ·have hz:(j:Int)<(M.length:Int):=by omega
   have hz0:(0:Int)≤(j:Int):=Int.natCast_nonneg _
   obtain ⟨ww1,ww2,ww3⟩:=wy_where hx1 hx2 hlt
   have HMc0:Hid (∀ W,Below w1.heap.size w1 W→W.cell? ⟨g,j * 2,none⟩=some (.int .i64 (((M.getD j (0,0)).1:Nat):Int))∧W.cell? ⟨g,j * 2+1,none⟩=some (.int .u64 (((M.getD j (0,0)).2:Nat):Int))):=fun W hb=>by
    have:=(HR.out W hb).cell j hlt
    rw [getD_zl M j hlt,Nat.zero_add] at this
    exact this
   have hmem:M.getD j (0,0)∈M:=by rw [List.getD_eq_getElem?_getD,List.getElem?_eq_getElem hlt]; exact List.getElem_mem _
   have hin:=hx8 _ hmem
   obtain ⟨⟨mh,mk⟩,hmm⟩ : ∃ m,M.getD j (0,0)=m:=⟨_,rfl⟩
   rw [hmm] at HMc0 ww1 ww2 ww3 hin
   obtain ⟨_,hm40,hk40⟩:=fit40 hin hx5
   simp only at hin ww1 ww3 hm40 hk40 HMc0
   obtain ⟨sz,hsz⟩ : ∃ sz,2^mh=sz:=⟨_,rfl⟩
   obtain ⟨lo,hlo⟩ : ∃ lo,mk * sz=lo:=⟨_,rfl⟩
   rw [hsz] at hin ww1 ww3
   have hszp:0<sz:=by rw [← hsz]; exact Nat.two_pow_pos _
   rw [Nat.add_mul,Nat.one_mul,hlo] at hin ww1
   rw [hlo] at ww3
   have HSt:Hid (∀ W,Calls Tryz.prog 88 #[.agg #[.int .i64 (mh:Int),.int .u64 (mk:Int)]] W fun e w'=>e = .returned (.int .u64 (lo:Int))∧Below W.heap.size W w'):=fun W=>start_any W mh mk hm40 (by rw [hsz,hlo]; omega) lo (by rw [hsz,hlo])
   have HSz:Hid (∀ W,Calls Tryz.prog 89 #[.agg #[.int .i64 (mh:Int),.int .u64 (mk:Int)]] W fun e w'=>e = .returned (.int .u64 (sz:Int))∧Below W.heap.size W w'):=fun W=>size_any W mh mk hm40 sz hsz
   have HMc:Hid (∀ W,Below W0.heap.size W0 W∧Below w1.heap.size w1 W→W.cell? ⟨g,j * 2,none⟩=some (.int .i64 (mh:Int))∧W.cell? ⟨g,j * 2+1,none⟩=some (.int .u64 (mk:Int))):=fun W hb=>HMc0.out W hb.2
   obtain ⟨m0,m1⟩:=HMc0.out wr hb
   have e80:IntKind.u64.wrap ((lo:Int)+(sz:Int))=((lo+sz:Nat):Int):=by rw [IntKind.wrap_u64]; omega
   have HHI:Hid (mh=H∨j≠A.length):=by
    by_cases hjA:j=A.length
    ·exact .inl (congrArg Prod.fst (ww2 hjA))
    ·exact .inr hjA
   have HBr:=hide hb
   have hj1:(j:Int)<41:=by omega
   have hc100:(c:Int)≤100:=by have:=Hc.out; split at this <;> omega
   have hlen:=hx3
   clear hx1 hx2 hx3 hx4 hx5 hx6 hx7 hx8 hx9
   have HLn:=hide hlen
   clear hlen
   go_upto_region 9 with (go_at_call 88; with_reducible refine (HSt.out _).mono ?_; rintro e w2 ⟨rfl,hb2⟩)
   have hbw:Below w1.heap.size w1 w2:=bnext hb hb2
   have hb0w:Below W0.heap.size W0 w2:=bnext HB1.out hbw
   clear m0 m1
   rcases Nat.lt_trichotomy j A.length with hjA | hjA | hjA
   ·have hge:(lo:Int)≤(i:Int):=by have:=ww1 hjA; omega
    have hnl : ¬ (i:Int)<(lo:Int)+(sz:Int):=by have:=ww1 hjA; omega
    have hc:c=M.length - 1+(if A.length<j+1 then H else 0):=by rw [Hc.out,if_neg (by omega),if_neg (by omega)]
    have HC:=hide hc
    clear ww1 ww2 ww3 hc hjA hmm hin hm40 hk40 hsz hlo hszp hmem
    refine wp_region_planI (by kernel_rfl) [63,64,65,66,67,68,69,70,71,72,73,74,75,76,77,78,79,80,81,82] [] [.pointer (some ⟨w.heap.size,4,none⟩),.slice (some ⟨b,o,none⟩) 1 sc,.pointer (some ⟨b,o,none⟩),.int .u64 (i:Int),.int .u64 (lo:Int),.bool true,.bool true,.pointer (some ⟨w.heap.size,4,none⟩),.slice (some ⟨b,o,none⟩) 1 sc,.pointer (some ⟨b,o,none⟩),.int .u64 (i:Int),.int .u64 (lo:Int),.slice (some ⟨g,0,none⟩) M.length cap,.int .i64 (j:Int),.pointer (some ⟨g,j * 2,none⟩),.agg #[.int .i64 (mh:Int),.int .u64 (mk:Int)],.int .u64 (sz:Int),.int .u64 ((lo+sz:Nat):Int),.bool false,.bool false] (by kernel_rfl) rfl (fun j hj=>by cases hj) (fun _ W=>Below w2.heap.size w2 W) (fun W _ hb=>hb) ?step ?fin
    case step =>
     refine ⟨?_,?_,?_,?_,?_,?_,?_,?_,?_,?_,?_,?_,?_,?_,?_,?_,?_,?_,?_,?_,trivial⟩
     ·intro L Ac Wc K hI hj hcl hsm dep hK
      have t1:Ac.tmps.getD 1 undef = .pointer (some ⟨w.heap.size,0,none⟩):=hsm 1 rfl
      show Oper.wp _ _ Ac Wc K _
      go_simp
      exact hK _ _ (.inr rfl) hI
     ·intro L Ac Wc K hI hj hcl hsm dep hK
      have t63:Ac.tmps.getD 63 undef = .pointer (some ⟨w.heap.size,4,none⟩):=dep 0 rfl
      show Oper.wp _ _ Ac Wc K _
      obtain ⟨g0,g1,g2,g3,g4,g5⟩:=(HS.out Wc (bnext hb0w hI)).1.cells
      go_simp
      exact hK _ _ (.inr rfl) hI
     ·intro L Ac Wc K hI hj hcl hsm dep hK
      have t64:Ac.tmps.getD 64 undef = .slice (some ⟨b,o,none⟩) 1 sc:=dep 1 rfl
      show Oper.wp _ _ Ac Wc K _
      go_simp
      exact hK _ _ (.inr rfl) hI
     ·intro L Ac Wc K hI hj hcl hsm dep hK
      have t65:Ac.tmps.getD 65 undef = .pointer (some ⟨b,o,none⟩):=dep 2 rfl
      show Oper.wp _ _ Ac Wc K _
      have ci:=(HS.out Wc (bnext hb0w hI)).2.1
      go_simp
      exact hK _ _ (.inr rfl) hI
     ·intro L Ac Wc K hI hj hcl hsm dep hK
      have t6:Ac.tmps.getD 6 undef = .int .u64 (lo:Int):=hsm 6 rfl
      show Oper.wp _ _ Ac Wc K _
      go_simp
      exact hK _ _ (.inr rfl) hI
     ·intro L Ac Wc K hI hj hcl hsm dep hK
      have t66:Ac.tmps.getD 66 undef = .int .u64 (i:Int):=dep 3 rfl
      have t67:Ac.tmps.getD 67 undef = .int .u64 (lo:Int):=dep 4 rfl
      show Oper.wp _ _ Ac Wc K _
      go_simp
      exact hK _ _ (.inr rfl) hI
     ·intro L Ac Wc K hI hj hcl hsm dep hK
      have t68:Ac.tmps.getD 68 undef = .bool true:=dep 5 rfl
      show Oper.wp _ _ Ac Wc K _
      go_simp
      exact hK _ _ (.inr rfl) hI
     ·intro L Ac Wc K hI hj hcl hsm dep hK
      have t1:Ac.tmps.getD 1 undef = .pointer (some ⟨w.heap.size,0,none⟩):=hsm 1 rfl
      refine ⟨true,(show Ac.tmps.getD 69 undef = .bool true from dep 6 rfl),?_⟩
      rw [if_pos rfl]
      go_simp
      exact hK _ _ (.inr rfl) hI
     ·intro L Ac Wc K hI hj hcl hsm dep hK
      have t70:Ac.tmps.getD 70 undef = .pointer (some ⟨w.heap.size,4,none⟩):=dep 7 rfl
      refine ⟨true,(show Ac.tmps.getD 69 undef = .bool true from dep 6 rfl),?_⟩
      rw [if_pos rfl]
      obtain ⟨g0,g1,g2,g3,g4,g5⟩:=(HS.out Wc (bnext hb0w hI)).1.cells
      go_simp
      exact hK _ _ (.inr rfl) hI
     ·intro L Ac Wc K hI hj hcl hsm dep hK
      have t71:Ac.tmps.getD 71 undef = .slice (some ⟨b,o,none⟩) 1 sc:=dep 8 rfl
      refine ⟨true,(show Ac.tmps.getD 69 undef = .bool true from dep 6 rfl),?_⟩
      rw [if_pos rfl]
      go_simp
      exact hK _ _ (.inr rfl) hI
     ·intro L Ac Wc K hI hj hcl hsm dep hK
      have t72:Ac.tmps.getD 72 undef = .pointer (some ⟨b,o,none⟩):=dep 9 rfl
      refine ⟨true,(show Ac.tmps.getD 69 undef = .bool true from dep 6 rfl),?_⟩
      rw [if_pos rfl]
      have ci:=(HS.out Wc (bnext hb0w hI)).2.1
      go_simp
      exact hK _ _ (.inr rfl) hI
     ·intro L Ac Wc K hI hj hcl hsm dep hK
      have t6:Ac.tmps.getD 6 undef = .int .u64 (lo:Int):=hsm 6 rfl
      refine ⟨true,(show Ac.tmps.getD 69 undef = .bool true from dep 6 rfl),?_⟩
      rw [if_pos rfl]
      go_simp
      exact hK _ _ (.inr rfl) hI
     ·intro L Ac Wc K hI hj hcl hsm dep hK
      have t3:Ac.tmps.getD 3 undef = .slice (some ⟨g,0,none⟩) M.length cap:=hsm 3 rfl
      refine ⟨true,(show Ac.tmps.getD 69 undef = .bool true from dep 6 rfl),?_⟩
      rw [if_pos rfl]
      go_simp
      exact hK _ _ (.inr rfl) hI
     ·intro L Ac Wc K hI hj hcl hsm dep hK
      have t5:Ac.tmps.getD 5 undef = .int .i64 (j:Int):=hsm 5 rfl
      refine ⟨true,(show Ac.tmps.getD 69 undef = .bool true from dep 6 rfl),?_⟩
      rw [if_pos rfl]
      go_simp
      exact hK _ _ (.inr rfl) hI
     ·intro L Ac Wc K hI hj hcl hsm dep hK
      have t75:Ac.tmps.getD 75 undef = .slice (some ⟨g,0,none⟩) M.length cap:=dep 12 rfl
      have t76:Ac.tmps.getD 76 undef = .int .i64 (j:Int):=dep 13 rfl
      refine ⟨true,(show Ac.tmps.getD 69 undef = .bool true from dep 6 rfl),?_⟩
      rw [if_pos rfl]
      go_simp
      exact hK _ _ (.inr rfl) hI
     ·intro L Ac Wc K hI hj hcl hsm dep hK
      have t77:Ac.tmps.getD 77 undef = .pointer (some ⟨g,j * 2,none⟩):=dep 14 rfl
      refine ⟨true,(show Ac.tmps.getD 69 undef = .bool true from dep 6 rfl),?_⟩
      rw [if_pos rfl]
      obtain ⟨m0,m1⟩:=HMc.out Wc ⟨bnext hb0w hI,bnext hbw hI⟩
      go_simp
      exact hK _ _ (.inr rfl) hI
     ·intro L Ac Wc K hI hj hcl hsm dep hK
      have t78:Ac.tmps.getD 78 undef = .agg #[.int .i64 (mh:Int),.int .u64 (mk:Int)]:=dep 15 rfl
      refine ⟨true,(show Ac.tmps.getD 69 undef = .bool true from dep 6 rfl),?_⟩
      rw [if_pos rfl]
      go_simp
      refine (HSz.out Wc).mono ?_
      rintro e w' ⟨rfl,hb'⟩
      exact hK _ _ (.inr rfl) (bnext hI hb')
     ·intro L Ac Wc K hI hj hcl hsm dep hK
      have t74:Ac.tmps.getD 74 undef = .int .u64 (lo:Int):=dep 11 rfl
      have t79:Ac.tmps.getD 79 undef = .int .u64 (sz:Int):=dep 16 rfl
      refine ⟨true,(show Ac.tmps.getD 69 undef = .bool true from dep 6 rfl),?_⟩
      rw [if_pos rfl]
      go_simp
      exact hK _ _ (.inr rfl) hI
     ·intro L Ac Wc K hI hj hcl hsm dep hK
      have t73:Ac.tmps.getD 73 undef = .int .u64 (i:Int):=dep 10 rfl
      have t80:Ac.tmps.getD 80 undef = .int .u64 ((lo+sz:Nat):Int):=dep 17 rfl
      refine ⟨true,(show Ac.tmps.getD 69 undef = .bool true from dep 6 rfl),?_⟩
      rw [if_pos rfl]
      go_simp
      exact hK _ _ (.inr rfl) hI
     ·intro L Ac Wc K hI hj hcl hsm dep hK
      have t69:Ac.tmps.getD 69 undef = .bool true:=dep 6 rfl
      have t81:Ac.tmps.getD 81 undef = .bool false:=dep 18 rfl
      show Oper.wp _ _ Ac Wc K _
      go_simp
      exact hK _ _ (.inr rfl) hI
    case fin =>
     intro L w3 hall hI
     have hb3:=bnext hbw hI
     clear hI hall
     simp only [puts]
     go_simp
     go_wp2
     go_roundg (M.length - (j+1))
     case rel =>
      go_light
      exact ⟨j+1,by omega,rfl,by go_num,⟨c,rfl,HC⟩,hb3⟩
     case measure=>go_light; omega
   ·obtain rfl:mh=H:=by rcases HHI.out with h | h; exact h; exact absurd hjA h
    have hmk:mk=i / 2^mh:=congrArg Prod.snd (ww2 hjA)
    have hge:(lo:Int)≤(i:Int):=by
     have:mk * 2^mh≤i:=by rw [hmk]; exact Nat.div_mul_le_self _ _
     rw [hsz,hlo] at this; omega
    have hnl:(i:Int)<(lo:Int)+(sz:Int):=by
     have:i<(mk+1) * 2^mh:=by rw [hmk]; exact Nat.lt_mul_of_div_lt (Nat.lt_succ_self _) (Nat.two_pow_pos _)
     rw [hsz,Nat.add_mul,hlo] at this; omega
    have hc:c+mh=M.length - 1+(if A.length<j+1 then mh else 0):=by rw [Hc.out,if_neg (by omega),if_pos (by omega)]; omega
    have HC:=hide hc
    have e89:IntKind.i64.wrap ((c:Int)+(mh:Int))=((c+mh:Nat):Int):=by rw [IntKind.wrap_i64]; omega
    have hMc:=HMc.out
    clear ww1 ww2 ww3 hc hjA hmm hin hm40 hk40 hsz hlo hszp hmem hmk
    refine wp_region_planI (by kernel_rfl) [63,64,65,66,67,68,69,70,71,72,73,74,75,76,77,78,79,80,81,82] [] [.pointer (some ⟨w.heap.size,4,none⟩),.slice (some ⟨b,o,none⟩) 1 sc,.pointer (some ⟨b,o,none⟩),.int .u64 (i:Int),.int .u64 (lo:Int),.bool true,.bool true,.pointer (some ⟨w.heap.size,4,none⟩),.slice (some ⟨b,o,none⟩) 1 sc,.pointer (some ⟨b,o,none⟩),.int .u64 (i:Int),.int .u64 (lo:Int),.slice (some ⟨g,0,none⟩) M.length cap,.int .i64 (j:Int),.pointer (some ⟨g,j * 2,none⟩),.agg #[.int .i64 (mh:Int),.int .u64 (mk:Int)],.int .u64 (sz:Int),.int .u64 ((lo+sz:Nat):Int),.bool true,.bool true] (by kernel_rfl) rfl (fun j hj=>by cases hj) (fun _ W=>Below w2.heap.size w2 W) (fun W _ hb=>hb) ?step ?fin
    case step =>
     refine ⟨?_,?_,?_,?_,?_,?_,?_,?_,?_,?_,?_,?_,?_,?_,?_,?_,?_,?_,?_,?_,trivial⟩
     ·intro L Ac Wc K hI hj hcl hsm dep hK
      have t1:Ac.tmps.getD 1 undef = .pointer (some ⟨w.heap.size,0,none⟩):=hsm 1 rfl
      show Oper.wp _ _ Ac Wc K _
      go_simp
      exact hK _ _ (.inr rfl) hI
     ·intro L Ac Wc K hI hj hcl hsm dep hK
      have t63:Ac.tmps.getD 63 undef = .pointer (some ⟨w.heap.size,4,none⟩):=dep 0 rfl
      show Oper.wp _ _ Ac Wc K _
      obtain ⟨g0,g1,g2,g3,g4,g5⟩:=(HS.out Wc (bnext hb0w hI)).1.cells
      go_simp
      exact hK _ _ (.inr rfl) hI
     ·intro L Ac Wc K hI hj hcl hsm dep hK
      have t64:Ac.tmps.getD 64 undef = .slice (some ⟨b,o,none⟩) 1 sc:=dep 1 rfl
      show Oper.wp _ _ Ac Wc K _
      go_simp
      exact hK _ _ (.inr rfl) hI
     ·intro L Ac Wc K hI hj hcl hsm dep hK
      have t65:Ac.tmps.getD 65 undef = .pointer (some ⟨b,o,none⟩):=dep 2 rfl
      show Oper.wp _ _ Ac Wc K _
      have ci:=(HS.out Wc (bnext hb0w hI)).2.1
      go_simp
      exact hK _ _ (.inr rfl) hI
     ·intro L Ac Wc K hI hj hcl hsm dep hK
      have t6:Ac.tmps.getD 6 undef = .int .u64 (lo:Int):=hsm 6 rfl
      show Oper.wp _ _ Ac Wc K _
      go_simp
      exact hK _ _ (.inr rfl) hI
     ·intro L Ac Wc K hI hj hcl hsm dep hK
      have t66:Ac.tmps.getD 66 undef = .int .u64 (i:Int):=dep 3 rfl
      have t67:Ac.tmps.getD 67 undef = .int .u64 (lo:Int):=dep 4 rfl
      show Oper.wp _ _ Ac Wc K _
      go_simp
      exact hK _ _ (.inr rfl) hI
     ·intro L Ac Wc K hI hj hcl hsm dep hK
      have t68:Ac.tmps.getD 68 undef = .bool true:=dep 5 rfl
      show Oper.wp _ _ Ac Wc K _
      go_simp
      exact hK _ _ (.inr rfl) hI
     ·intro L Ac Wc K hI hj hcl hsm dep hK
      have t1:Ac.tmps.getD 1 undef = .pointer (some ⟨w.heap.size,0,none⟩):=hsm 1 rfl
      refine ⟨true,(show Ac.tmps.getD 69 undef = .bool true from dep 6 rfl),?_⟩
      rw [if_pos rfl]
      go_simp
      exact hK _ _ (.inr rfl) hI
     ·intro L Ac Wc K hI hj hcl hsm dep hK
      have t70:Ac.tmps.getD 70 undef = .pointer (some ⟨w.heap.size,4,none⟩):=dep 7 rfl
      refine ⟨true,(show Ac.tmps.getD 69 undef = .bool true from dep 6 rfl),?_⟩
      rw [if_pos rfl]
      obtain ⟨g0,g1,g2,g3,g4,g5⟩:=(HS.out Wc (bnext hb0w hI)).1.cells
      go_simp
      exact hK _ _ (.inr rfl) hI
     ·intro L Ac Wc K hI hj hcl hsm dep hK
      have t71:Ac.tmps.getD 71 undef = .slice (some ⟨b,o,none⟩) 1 sc:=dep 8 rfl
      refine ⟨true,(show Ac.tmps.getD 69 undef = .bool true from dep 6 rfl),?_⟩
      rw [if_pos rfl]
      go_simp
      exact hK _ _ (.inr rfl) hI
     ·intro L Ac Wc K hI hj hcl hsm dep hK
      have t72:Ac.tmps.getD 72 undef = .pointer (some ⟨b,o,none⟩):=dep 9 rfl
      refine ⟨true,(show Ac.tmps.getD 69 undef = .bool true from dep 6 rfl),?_⟩
      rw [if_pos rfl]
      have ci:=(HS.out Wc (bnext hb0w hI)).2.1
      go_simp
      exact hK _ _ (.inr rfl) hI
     ·intro L Ac Wc K hI hj hcl hsm dep hK
      have t6:Ac.tmps.getD 6 undef = .int .u64 (lo:Int):=hsm 6 rfl
      refine ⟨true,(show Ac.tmps.getD 69 undef = .bool true from dep 6 rfl),?_⟩
      rw [if_pos rfl]
      go_simp
      exact hK _ _ (.inr rfl) hI
     ·intro L Ac Wc K hI hj hcl hsm dep hK
      have t3:Ac.tmps.getD 3 undef = .slice (some ⟨g,0,none⟩) M.length cap:=hsm 3 rfl
      refine ⟨true,(show Ac.tmps.getD 69 undef = .bool true from dep 6 rfl),?_⟩
      rw [if_pos rfl]
      go_simp
      exact hK _ _ (.inr rfl) hI
     ·intro L Ac Wc K hI hj hcl hsm dep hK
      have t5:Ac.tmps.getD 5 undef = .int .i64 (j:Int):=hsm 5 rfl
      refine ⟨true,(show Ac.tmps.getD 69 undef = .bool true from dep 6 rfl),?_⟩
      rw [if_pos rfl]
      go_simp
      exact hK _ _ (.inr rfl) hI
     ·intro L Ac Wc K hI hj hcl hsm dep hK
      have t75:Ac.tmps.getD 75 undef = .slice (some ⟨g,0,none⟩) M.length cap:=dep 12 rfl
      have t76:Ac.tmps.getD 76 undef = .int .i64 (j:Int):=dep 13 rfl
      refine ⟨true,(show Ac.tmps.getD 69 undef = .bool true from dep 6 rfl),?_⟩
      rw [if_pos rfl]
      go_simp
      exact hK _ _ (.inr rfl) hI
     ·intro L Ac Wc K hI hj hcl hsm dep hK
      have t77:Ac.tmps.getD 77 undef = .pointer (some ⟨g,j * 2,none⟩):=dep 14 rfl
      refine ⟨true,(show Ac.tmps.getD 69 undef = .bool true from dep 6 rfl),?_⟩
      rw [if_pos rfl]
      obtain ⟨m0,m1⟩:=HMc.out Wc ⟨bnext hb0w hI,bnext hbw hI⟩
      go_simp
      exact hK _ _ (.inr rfl) hI
     ·intro L Ac Wc K hI hj hcl hsm dep hK
      have t78:Ac.tmps.getD 78 undef = .agg #[.int .i64 (mh:Int),.int .u64 (mk:Int)]:=dep 15 rfl
      refine ⟨true,(show Ac.tmps.getD 69 undef = .bool true from dep 6 rfl),?_⟩
      rw [if_pos rfl]
      go_simp
      refine (HSz.out Wc).mono ?_
      rintro e w' ⟨rfl,hb'⟩
      exact hK _ _ (.inr rfl) (bnext hI hb')
     ·intro L Ac Wc K hI hj hcl hsm dep hK
      have t74:Ac.tmps.getD 74 undef = .int .u64 (lo:Int):=dep 11 rfl
      have t79:Ac.tmps.getD 79 undef = .int .u64 (sz:Int):=dep 16 rfl
      refine ⟨true,(show Ac.tmps.getD 69 undef = .bool true from dep 6 rfl),?_⟩
      rw [if_pos rfl]
      go_simp
      exact hK _ _ (.inr rfl) hI
     ·intro L Ac Wc K hI hj hcl hsm dep hK
      have t73:Ac.tmps.getD 73 undef = .int .u64 (i:Int):=dep 10 rfl
      have t80:Ac.tmps.getD 80 undef = .int .u64 ((lo+sz:Nat):Int):=dep 17 rfl
      refine ⟨true,(show Ac.tmps.getD 69 undef = .bool true from dep 6 rfl),?_⟩
      rw [if_pos rfl]
      go_simp
      exact hK _ _ (.inr rfl) hI
     ·intro L Ac Wc K hI hj hcl hsm dep hK
      have t69:Ac.tmps.getD 69 undef = .bool true:=dep 6 rfl
      have t81:Ac.tmps.getD 81 undef = .bool true:=dep 18 rfl
      show Oper.wp _ _ Ac Wc K _
      go_simp
      exact hK _ _ (.inr rfl) hI
    case fin =>
     intro L w3 hall hI
     have hb3:=bnext hbw hI
     obtain ⟨m0,m1⟩:=hMc w3 ⟨bnext hb0w hI,hb3⟩
     clear hI hall hMc
     simp only [puts]
     go_simp
     go_wp2
     go_roundg (M.length - (j+1))
     case rel =>
      go_light
      exact ⟨j+1,by omega,rfl,by go_num,⟨c+mh,by go_num,HC⟩,hb3⟩
     case measure=>go_light; omega
   ·have hnl : ¬ (lo:Int)≤(i:Int):=by have:=ww3 hjA; omega
    have hc:c=M.length - 1+(if A.length<j+1 then H else 0):=by rw [Hc.out,if_pos (by omega),if_pos (by omega)]
    have HC:=hide hc
    clear ww1 ww2 ww3 hc hjA hmm hin hm40 hk40 hsz hlo hszp hmem
    refine wp_region_planI (by kernel_rfl) [63,64,65,66,67,68,69,70,71,72,73,74,75,76,77,78,79,80,81,82] [] [.pointer (some ⟨w.heap.size,4,none⟩),.slice (some ⟨b,o,none⟩) 1 sc,.pointer (some ⟨b,o,none⟩),.int .u64 (i:Int),.int .u64 (lo:Int),.bool false,.bool false,undef,undef,undef,undef,undef,undef,undef,undef,undef,undef,undef,undef,.bool false] (by kernel_rfl) rfl (fun j hj=>by cases hj) (fun _ W=>Below w2.heap.size w2 W) (fun W _ hb=>hb) ?step ?fin
    case step =>
     refine ⟨?_,?_,?_,?_,?_,?_,?_,?_,?_,?_,?_,?_,?_,?_,?_,?_,?_,?_,?_,?_,trivial⟩
     ·intro L Ac Wc K hI hj hcl hsm dep hK
      have t1:Ac.tmps.getD 1 undef = .pointer (some ⟨w.heap.size,0,none⟩):=hsm 1 rfl
      show Oper.wp _ _ Ac Wc K _
      go_simp
      exact hK _ _ (.inr rfl) hI
     ·intro L Ac Wc K hI hj hcl hsm dep hK
      have t63:Ac.tmps.getD 63 undef = .pointer (some ⟨w.heap.size,4,none⟩):=dep 0 rfl
      show Oper.wp _ _ Ac Wc K _
      obtain ⟨g0,g1,g2,g3,g4,g5⟩:=(HS.out Wc (bnext hb0w hI)).1.cells
      go_simp
      exact hK _ _ (.inr rfl) hI
     ·intro L Ac Wc K hI hj hcl hsm dep hK
      have t64:Ac.tmps.getD 64 undef = .slice (some ⟨b,o,none⟩) 1 sc:=dep 1 rfl
      show Oper.wp _ _ Ac Wc K _
      go_simp
      exact hK _ _ (.inr rfl) hI
     ·intro L Ac Wc K hI hj hcl hsm dep hK
      have t65:Ac.tmps.getD 65 undef = .pointer (some ⟨b,o,none⟩):=dep 2 rfl
      show Oper.wp _ _ Ac Wc K _
      have ci:=(HS.out Wc (bnext hb0w hI)).2.1
      go_simp
      exact hK _ _ (.inr rfl) hI
     ·intro L Ac Wc K hI hj hcl hsm dep hK
      have t6:Ac.tmps.getD 6 undef = .int .u64 (lo:Int):=hsm 6 rfl
      show Oper.wp _ _ Ac Wc K _
      go_simp
      exact hK _ _ (.inr rfl) hI
     ·intro L Ac Wc K hI hj hcl hsm dep hK
      have t66:Ac.tmps.getD 66 undef = .int .u64 (i:Int):=dep 3 rfl
      have t67:Ac.tmps.getD 67 undef = .int .u64 (lo:Int):=dep 4 rfl
      show Oper.wp _ _ Ac Wc K _
      go_simp
      exact hK _ _ (.inr rfl) hI
     ·intro L Ac Wc K hI hj hcl hsm dep hK
      have t68:Ac.tmps.getD 68 undef = .bool false:=dep 5 rfl
      show Oper.wp _ _ Ac Wc K _
      go_simp
      exact hK _ _ (.inr rfl) hI
     ·intro L Ac Wc K hI hj hcl hsm dep hK
      refine ⟨false,(show Ac.tmps.getD 69 undef = .bool false from dep 6 rfl),?_⟩
      rw [if_neg (by decide)]
      exact hK _ _ (.inr rfl) hI
     ·intro L Ac Wc K hI hj hcl hsm dep hK
      refine ⟨false,(show Ac.tmps.getD 69 undef = .bool false from dep 6 rfl),?_⟩
      rw [if_neg (by decide)]
      exact hK _ _ (.inr rfl) hI
     ·intro L Ac Wc K hI hj hcl hsm dep hK
      refine ⟨false,(show Ac.tmps.getD 69 undef = .bool false from dep 6 rfl),?_⟩
      rw [if_neg (by decide)]
      exact hK _ _ (.inr rfl) hI
     ·intro L Ac Wc K hI hj hcl hsm dep hK
      refine ⟨false,(show Ac.tmps.getD 69 undef = .bool false from dep 6 rfl),?_⟩
      rw [if_neg (by decide)]
      exact hK _ _ (.inr rfl) hI
     ·intro L Ac Wc K hI hj hcl hsm dep hK
      refine ⟨false,(show Ac.tmps.getD 69 undef = .bool false from dep 6 rfl),?_⟩
      rw [if_neg (by decide)]
      exact hK _ _ (.inr rfl) hI
     ·intro L Ac Wc K hI hj hcl hsm dep hK
      refine ⟨false,(show Ac.tmps.getD 69 undef = .bool false from dep 6 rfl),?_⟩
      rw [if_neg (by decide)]
      exact hK _ _ (.inr rfl) hI
     ·intro L Ac Wc K hI hj hcl hsm dep hK
      refine ⟨false,(show Ac.tmps.getD 69 undef = .bool false from dep 6 rfl),?_⟩
      rw [if_neg (by decide)]
      exact hK _ _ (.inr rfl) hI
     ·intro L Ac Wc K hI hj hcl hsm dep hK
      refine ⟨false,(show Ac.tmps.getD 69 undef = .bool false from dep 6 rfl),?_⟩
      rw [if_neg (by decide)]
      exact hK _ _ (.inr rfl) hI
     ·intro L Ac Wc K hI hj hcl hsm dep hK
      refine ⟨false,(show Ac.tmps.getD 69 undef = .bool false from dep 6 rfl),?_⟩
      rw [if_neg (by decide)]
      exact hK _ _ (.inr rfl) hI
     ·intro L Ac Wc K hI hj hcl hsm dep hK
      refine ⟨false,(show Ac.tmps.getD 69 undef = .bool false from dep 6 rfl),?_⟩
      rw [if_neg (by decide)]
      exact hK _ _ (.inr rfl) hI
     ·intro L Ac Wc K hI hj hcl hsm dep hK
      refine ⟨false,(show Ac.tmps.getD 69 undef = .bool false from dep 6 rfl),?_⟩
      rw [if_neg (by decide)]
      exact hK _ _ (.inr rfl) hI
     ·intro L Ac Wc K hI hj hcl hsm dep hK
      refine ⟨false,(show Ac.tmps.getD 69 undef = .bool false from dep 6 rfl),?_⟩
      rw [if_neg (by decide)]
      exact hK _ _ (.inr rfl) hI
     ·intro L Ac Wc K hI hj hcl hsm dep hK
      have t69:Ac.tmps.getD 69 undef = .bool false:=dep 6 rfl
      have t81:Ac.tmps.getD 81 undef=undef:=dep 18 rfl
      show Oper.wp _ _ Ac Wc K _
      go_simp
      exact hK _ _ (.inr rfl) hI
    case fin =>
     intro L w3 hall hI
     have hb3:=bnext hbw hI
     clear hI hall
     simp only [puts]
     go_simp
     go_wp2
     go_roundg (M.length - (j+1))
     case rel =>
      go_light
      exact ⟨j+1,by omega,rfl,by go_num,⟨c,rfl,HC⟩,hb3⟩
     case measure=>go_light; omega
  ·obtain rfl:j=M.length:=by omega
   have hz : ¬ ((M.length:Int)<(M.length:Int)):=by omega
   have hcv:c=H+A.length+B.length:=by rw [Hc.out,if_pos (by omega),hx3]; omega
   obtain ⟨e0,e1,e2,e3,e4,e5⟩:=(HS.out wr (bnext HB1.out hb)).1.cells
   have HE:Hid (Six wr w.heap.size (.int .i64 1) (.int .i64 k) (.int .u64 0) (.int .u64 (size:Int)) (.slice (some ⟨b,o,none⟩) 1 sc) (.slice da D.length dc)∧RdS wr da db dO D.length D∧Below w.heap.size w wr):=⟨(HS.out wr (bnext HB1.out hb)).1,(HS.out wr (bnext HB1.out hb)).2.2.1,(HS.out wr (bnext HB1.out hb)).2.2.2⟩
   have HC:=hide hcv
   have hD63:(D.length:Int)≤9223372036854775807:=by omega
   have hc100:(c:Int)≤100:=by omega
   by_cases hDl:D.length=c
   ·have hDz:(D.length:Int)=(c:Int):=by omega
    have HQ2:Hid (decide (∀ d∈D,(d.size:Int)=k)=r):=by
     rw [← HQ.out]
     show decide _=decide _
     simp only [fil,hDl,hcv,true_and]
    clear hx1 hx2 hx3 hx4 hx5 hx6 hx7 hx8 hx9 hcv hlt hj hb
    generalize wr=wv at *
    clear wr
    go_wp2
    go_loopg [7] c (fun gh x wr => ∃ j:Nat,j≤c∧gh=c - j∧x = .int .i64 (j:Int)∧(∀ t,t<j→((D.getD t ByteArray.empty).size:Int)=k)∧Below wv.heap.size wv wr)
    case atStart =>
     go_light
     exact ⟨0,Nat.zero_le _,rfl,rfl,fun t ht=>absurd ht (Nat.not_lt_zero _),Below.refl _ _⟩
    case round =>
     obtain ⟨j,hj,rfl,rfl,hal,hb⟩:=hrel
     clear e0 e1 e2 e3 e4 e5
     obtain ⟨e0,e1,e2,e3,e4,e5⟩:=(HE.out.1.next hb).cells
     have HBf:=hide (bnext HE.out.2.2 hb)
     by_cases hlt:j<c
     ·have hz:(j:Int)<(c:Int):=by omega
      have hz2:(j:Int)<(D.length:Int):=by omega
      have hz0:(0:Int)≤(j:Int):=Int.natCast_nonneg _
      have hrd:=HE.out.2.1.next hb (Nat.le_refl _)
      obtain rfl:=hrd.ptr (by omega)
      have cj:=hrd.at (k:=j) (by omega)
      obtain ⟨d,hd⟩ : ∃ d,D.getD j ByteArray.empty=d:=⟨_,rfl⟩
      rw [hd] at cj
      by_cases hk:(d.size:Int)=k
      ·have HN:Hid (∀ t,t<j+1→((D.getD t ByteArray.empty).size:Int)=k):=fun t ht=>by
        rcases Nat.lt_or_eq_of_le (Nat.le_of_lt_succ ht) with hx | rfl
        ·exact hal t hx
        ·rw [hd]; exact hk
       have HB2:=hide hb
       clear hd hal hrd hb hDl hDz
       go_upto_region 16 with (fail)
       go_quiet (fail)
       go_wp2
       go_roundg (c - (j+1))
       case rel =>
        go_light
        exact ⟨j+1,by omega,rfl,by go_num,HN.out,below_drewN HB2.out _⟩
       case measure=>go_light; omega
      ·obtain rfl:false=r:=by
        rw [← HQ2.out]
        refine (decide_eq_false fun h=>hk ?_).symm
        rw [← hd]
        exact h _ (getD_mem (by omega))
       clear hd hal hrd hb hDl hDz
       go_upto_region 16 with (fail)
       go_quiet (fail)
       go_wp2
       go_ret
       exact ⟨rfl,below_drewN HBf.out _⟩
     ·obtain rfl:j=c:=by omega
      have hz : ¬ ((j:Int)<(j:Int)):=by omega
      obtain rfl:true=r:=by
       rw [← HQ2.out]
       refine (decide_eq_true fun d hd => ?_).symm
       obtain ⟨t,ht,rfl⟩:=List.getElem_of_mem hd
       have:=hal t (by omega)
       rwa [List.getD_eq_getElem?_getD,List.getElem?_eq_getElem ht] at this
      clear hal hlt hb
      go_wp2
      go_ret
      exact ⟨rfl,HBf.out⟩
   ·have hDz : ¬ (D.length:Int)=(c:Int):=by omega
    obtain rfl:false=r:=by rw [← HQ.out]; exact (decide_eq_false (by rintro ⟨h,_⟩; exact hDl (by rw [h,hcv]))).symm
    clear hx1 hx2 hx3 hx4 hx5 hx6 hx7 hx8 hx9 hcv hlt hj hb hDl
    go_wp2
    go_ret
    exact ⟨rfl,HE.out.2.2⟩
end Go.Proofs.YtipcenbndhnnhaaGreatDoor
