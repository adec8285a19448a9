/- Own work. -/
import Derived.Test.YtoblgjledefdbaaGreatDoorQa32
namespace Go.Proofs.YtoblgjledefdbaaGreatDoor
open Go.RowKit
attribute [local go_sem ↓] Go.wp_at_zero Go.wp_at_succ
theorem field_N (w:World) (s:ByteArray):(Instr.field 315 (.agg #[.string s]) 0).run Tryz.prog w = .ok (.string s) w:=by kernel_rfl
structure Ap (w wr:World) (m:Nat) (k:Int) (L:List ByteArray) (x:ByteArray) (j:Nat) (v:Value):Prop where
 blk:wr.heap[m+1]? = some (.cells #[.int .i64 k,.int .u64 ((L.length+1:Nat):Int),.map (some m)] 172 (0,0))
 lst:wr.heap[w.heap.size]? = some (.cells #[.int .i64 (j:Int),.int .u64 (((L.length+1) / 2^j - 1:Nat):Int)] 249 (0,0))
 mp:Mp wr m (fj (clk k) L x j)
 own:OwnS wr (w.heap.size+1) v (nw (clk k) (L++[x]) j)
 ch:Chf m w wr
set_option maxRecDepth 100000 in
set_option maxHeartbeats 2000000 in
theorem fappend_ok (w:World) (ht:Tb w) (m:Nat) (k:Int) (L:List ByteArray) (hF:Frs w m k L) (s:ByteArray) (hs:s.size≤1048576) (hL:L.length<65536) (t:Nat) (hT:tr 64 (L.length+1)=t) :
  Calls Tryz.prog 163 #[.pointer (some ⟨m+1,0,none⟩),.string s] w fun e w' => ∃ v,e = .returned (.tuple #[v,.int .i64 0])∧Frs w' m k (L++[s])∧OwnS w' w.heap.size v (nw (clk k) (L++[s]) t)∧Chf m w w':=by
 have h1:decide ((1048576:Int)<(s.size:Int))=false:=decide_eq_false (by omega)
 have h2:decide ((65536:Int)≤(L.length:Int))=false:=decide_eq_false (by omega)
 have c1:=hF.c1
 have f1:=hF.fz 1
 have hlt:=hF.lt
 have hw1:IntKind.u64.wrap ((L.length:Int)+1)=((L.length+1:Nat):Int):=by rw [u64_id _ (by omega) (by omega)]; omega
 obtain ⟨d0,hd0⟩ : ∃ d0,dg (clk k) (leafT s)=d0:=⟨_,rfl⟩
 have HLf:Hid (∀ W,Tb W→Calls Tryz.prog 145 #[.int .i64 k,.string s] W fun e w'=>e = .returned (.string d0)∧Below W.heap.size W w'):=fun W hT=>leaf_any W hT k s (by omega) d0 hd0
 go_enter Tryz.func163,Tryz.ntmps163
 go_upto_region 7 with (fail)
 obtain ⟨w0,hw0⟩ : ∃ w0,(w.setCell ⟨m+1,1,none⟩ (.int .u64 ((L.length:Int)+1))).alloc (.cells #[.int .i64 0,.int .u64 (L.length:Int)] 249)=w0:=⟨_,rfl⟩
 rw [hw0]
 have hsz0:(w.setCell ⟨m+1,1,none⟩ (.int .u64 ((L.length:Int)+1))).heap.size=w.heap.size:=by simp
 have hal : ∀ q,q<w.heap.size→w0.heap[q]? = (w.setCell ⟨m+1,1,none⟩ (.int .u64 ((L.length:Int)+1))).heap[q]? := fun q hq=>by
  rw [← hw0]
  exact (MapKept.heap_alloc _ _).2 q (by rw [hsz0]; exact hq)
 have hblk0:w0.heap[m+1]? = some (.cells #[.int .i64 k,.int .u64 ((L.length:Int)+1),.map (some m)] 172 (0,0)):=by
  rw [hal _ hlt]
  exact heap_setCell_same w (m+1) 1 _ 172 (.int .u64 ((L.length:Int)+1)) hF.blk
 have hlst0:w0.heap[w.heap.size]? = some (.cells #[.int .i64 0,.int .u64 (L.length:Int)] 249 (0,0)):=by
  have:=heap_alloc_new (w.setCell ⟨m+1,1,none⟩ (.int .u64 ((L.length:Int)+1))) (.cells #[.int .i64 0,.int .u64 (L.length:Int)] 249)
  rw [hsz0,hw0] at this
  exact this
 have hmp0:Mp w0 m (ff (clk k) L):=hF.mp.same (by rw [hal m (by omega)]; exact Below.heap_setCell _ _ _ _ (by simp))
 have hz0:w.heap.size<w0.heap.size:=(Array.getElem?_eq_some_iff.1 hlst0).1
 have hch0:Chf m w w0:=by
  have h:=(Chf.refl m w).set (b:=m+1) 1 (.int .u64 ((L.length:Int)+1)) (.inl rfl) (by omega)
  have:=h.next (w2:=w0) (by rw [← hw0]; exact bal (Below.refl _ _) _) (by omega)
  exact this
 have c0:w0.cell? ⟨m+1,0,none⟩=some (.int .i64 k):=by rw [cell_of_row w0 (m+1) 0 _ _ (0,0) hblk0]; rfl
 have hTb0:=ht.chf hF hch0
 have HTb:Hid (∀ W,Chf m w W→Tb W):=fun W hc=>ht.chf hF hc
 clear hw0 hsz0 hal c1 f1 h1 h2 hw1
 go_upto_region 8 with (go_at_call 145; with_reducible refine (HLf.out _ hTb0).mono ?_; rintro e w1 ⟨rfl,hb1⟩)
 have hblk1:w1.heap[m+1]? = _:=(hb1.block (m+1) (by omega)).trans hblk0
 have hlst1:w1.heap[w.heap.size]? = _:=(hb1.block w.heap.size hz0).trans hlst0
 have hmp1:=hmp0.same (hb1.block m (by omega))
 have hch1:=hch0.next hb1 (by omega)
 obtain ⟨es,cl,hup,hmp2⟩:=(hmp1.same (W:=w1.drew) rfl).write (h:=0) (k:=L.length) ⟨⟨by omega,by omega⟩,by omega⟩ d0
 have hd0':nd (clk k) (L++[s]) 0 L.length=d0:=by rw [nd,← hd0]; simp
 rw [← hd0',fj_start] at hmp2
 have hch2:Chf m w (ChangeMaps.setBlock w1.drew m (.map es cl)):=(Chf.next hch1 (Below.refl _ _).drew (by omega)).put _
 have hblk2:(ChangeMaps.setBlock w1.drew m (.map es cl)).heap[m+1]? = _:=(set_other _ (by omega)).trans hblk1
 have hlst2:(ChangeMaps.setBlock w1.drew m (.map es cl)).heap[w.heap.size]? = _:=(set_other _ (by omega)).trans hlst1
 obtain ⟨w2,hw2⟩ : ∃ w2,ChangeMaps.setBlock w1.drew m (.map es cl)=w2:=⟨_,rfl⟩
 rw [hw2] at hup hmp2 hch2 hblk2 hlst2
 have x2:w1.cell? ⟨m+1,2,none⟩=some (.map (some m)):=by rw [cell_of_row w1 (m+1) 2 _ _ (0,0) hblk1]; rfl
 have y0:w1.cell? ⟨w.heap.size,0,none⟩=some (.int .i64 0):=by rw [cell_of_row w1 _ 0 _ _ (0,0) hlst1]; rfl
 have y1:w1.cell? ⟨w.heap.size,1,none⟩=some (.int .u64 (L.length:Int)):=by rw [cell_of_row w1 _ 1 _ _ (0,0) hlst1]; rfl
 unfold kv nv at hup
 clear hw2 hmp0 hmp1 hch0 hch1 hblk0 hlst0 hb1 hTb0 c0 HLf hblk1 hlst1
 have HTr:Hid (∀ W,Calls Tryz.prog 253 #[.int .u64 ((L.length:Int)+1)] W fun e w'=>e = .returned (.int .i64 (t:Int))∧W=w'):=fun W=>(trail_any (L.length+1) W (by omega) t hT).mono fun _ _ h=>⟨h.1,h.2.symm⟩
 have HAp:Hid (Ap w (w2.alloc (.cells #[.string d0] 9)) m k L s 0 (.slice (some ⟨w2.heap.size,0,none⟩) 1 1)):=by
  have hz2:w.heap.size<w2.heap.size:=(Array.getElem?_eq_some_iff.1 hlst2).1
  refine ⟨((MapKept.heap_alloc _ _).2 _ (by omega)).trans hblk2,((MapKept.heap_alloc _ _).2 _ hz2).trans ?_,hmp2.same ((MapKept.heap_alloc _ _).2 _ (by omega)),?_,hch2.next (bal (Below.refl _ _) _) (by omega)⟩
  ·rw [hlst2]; simp
  ·rw [nw_zero,List.length_append,List.length_singleton,Nat.add_sub_cancel,hd0']
   exact own_mono (own_one w2 d0) (by omega)
 have hc5:(w2.alloc (.cells #[.string d0] 9)).cell? ⟨m+1,1,none⟩=some (.int .u64 ((L.length:Int)+1)):=by rw [cell_of_row _ (m+1) 1 _ _ (0,0) HAp.out.blk]; rfl
 have hsh : ∀ q,q<w2.heap.size→(w2.alloc (.cells #[.string d0] 9)).heap[q]? = w2.heap[q]? := fun q hq=>(MapKept.heap_alloc _ _).2 _ hq
 have ht16:t≤16:=by rw [← hT]; exact tr_small (by omega) (by omega)
 clear hsh hmp2 hch2 hblk2 hlst2
 go_region
 go_wp2_with (go_at_call 253; with_reducible refine (HTr.out _).mono ?_; rintro e w3 ⟨rfl,rfl⟩)
 have HK:=hide hF
 have hkk:=clk_le k
 have HDd:Hid (d0=nd (clk k) (L++[s]) 0 ((L.length+1) / 2^0 - 1)):=by show d0=_; rw [Nat.pow_zero,Nat.div_one,Nat.add_sub_cancel,hd0']
 have HHT:=hide hT
 clear HTr hc5 x2 y0 y1 hup hd0' hd0 ht hF hs hz0 hT
 generalize w2.alloc (.cells #[.string d0] 9)=w3 at *
 generalize w2.heap.size=z2 at *
 go_loopg [7,8,50] t (fun g x v i wr => ∃ (j:Nat) (d:ByteArray),j≤t∧g=t - j∧x = .string d∧Hid (d=nd (clk k) (L++[s]) j ((L.length+1) / 2^j - 1))∧i = .int .i64 (j:Int)∧Hid (Ap w wr m k L s j v))
 case atStart =>
  go_light
  exact ⟨0,d0,Nat.zero_le _,rfl,rfl,HDd,rfl,HAp⟩
 case round =>
  clear HAp HDd
  obtain ⟨j,d,hj,rfl,rfl,HDj,rfl,HA⟩:=hrel
  by_cases hjt:j<t
  ·have hz:(j:Int)<(t:Int):=by omega
   have hz0:(0:Int)≤(j:Int):=Int.natCast_nonneg _
   have hz9:(j:Int)≤16:=by omega
   obtain ⟨q',hq'⟩:=tr_div (j:=j+1) HHT.out (by omega)
   obtain ⟨q,rfl⟩ : ∃ q,q'=q+1:=⟨q' - 1,by
    have:q'≠0:=by rintro rfl; simp at hq'
    omega⟩
   have e1:(L.length+1) / 2^(j+1) - 1=q:=by rw [last_at hq']; omega
   have e2:(L.length+1) / 2^j - 1=2 * q+1:=by
    rw [last_at (q:=2 * (q+1)) (by rw [hq',Nat.pow_succ,Nat.mul_assoc])]; omega
   obtain ⟨a,ha⟩ : ∃ a,2 * q+1=a:=⟨_,rfl⟩
   have hab:a≤L.length+1:=by rw [← ha,← e2]; exact Nat.le_trans (Nat.sub_le _ _) (Nat.div_le_self _ _)
   have ha1:(1:Int)≤(a:Int):=by omega
   have ha2:(a:Int)≤65536:=by omega
   obtain ⟨lf,hlf⟩ : ∃ lf,nd (clk k) (L++[s]) j (2 * q)=lf:=⟨_,rfl⟩
   have hb:=HA.out.blk
   have hl:=HA.out.lst
   rw [e2,ha] at hl
   have z0:wr.cell? ⟨m+1,0,none⟩=some (.int .i64 k):=by rw [cell_of_row wr (m+1) 0 _ _ (0,0) hb]; rfl
   have z2:wr.cell? ⟨m+1,2,none⟩=some (.map (some m)):=by rw [cell_of_row wr (m+1) 2 _ _ (0,0) hb]; rfl
   have l0:wr.cell? ⟨w.heap.size,0,none⟩=some (.int .i64 (j:Int)):=by rw [cell_of_row wr _ 0 _ _ (0,0) hl]; rfl
   have l1:wr.cell? ⟨w.heap.size,1,none⟩=some (.int .u64 (a:Int)):=by rw [cell_of_row wr _ 1 _ _ (0,0) hl]; rfl
   have hlook:=(HA.out.mp.same (W:=wr.drew) rfl).look (h:=(j:Int)) (k:=2 * q) ⟨⟨by omega,by omega⟩,by omega⟩ false
   rw [fj_left (clk k) L s j q hq',hlf] at hlook
   unfold kv nv at hlook
   rw [show ((2 * q:Nat):Int)=(a:Int) - 1 by omega] at hlook
   simp only [Option.getD_some,Bool.false_eq_true,if_false] at hlook
   obtain ⟨d',hd'⟩ : ∃ d',dg (clk k) (nodeT lf d)=d':=⟨_,rfl⟩
   have zl:lf.size=clk k:=by rw [← hlf]; exact nd_size hkk _ _ _
   have zd:d.size=clk k:=by rw [HDj.out]; exact nd_size hkk _ _ _
   have HNd:Hid (∀ W,Tb W→Calls Tryz.prog 227 #[.int .i64 k,.string lf,.string d] W fun e w'=>e = .returned (.string d')∧Below W.heap.size W w'):=fun W hT=>node_any W hT k lf d (by omega) (by omega) d' hd'
   have HD2:Hid (d'=nd (clk k) (L++[s]) (j+1) ((L.length+1) / 2^(j+1) - 1)):=by
    show d'=_
    rw [e1,nd,hlf,← hd',HDj.out,e2]
   have hTw:=(HTb.out wr HA.out.ch)
   have HTd:Hid (Tb wr.drew):=⟨hTw.rs⟩
   have hfl:=field_N wr.drew lf
   have HW:Hid (∀ W,Below wr.drew.heap.size wr.drew W→W.cell? ⟨w.heap.size,0,none⟩=some (.int .i64 (j:Int))∧W.cell? ⟨w.heap.size,1,none⟩=some (.int .u64 (a:Int))∧W.frozen? ⟨w.heap.size,0,none⟩=false∧W.frozen? ⟨w.heap.size,1,none⟩=false ∧
     W.heap[w.heap.size]? = some (.cells #[.int .i64 (j:Int),.int .u64 (a:Int)] 249 (0,0))∧W.heap[m+1]? = some (.cells #[.int .i64 k,.int .u64 ((L.length+1:Nat):Int),.map (some m)] 172 (0,0))∧Mp W m (fj (clk k) L s j)∧Chf m w W ∧ ∀ v l,OwnS wr (w.heap.size+1) v l→OwnS W (w.heap.size+1) v l):=fun W hbW=>by
    have hlw:=(hbW.block w.heap.size (Array.getElem?_eq_some_iff.1 hl).1).trans hl
    have hm1:m+1<wr.heap.size:=(Array.getElem?_eq_some_iff.1 hb).1
    refine ⟨?_,?_,frozen_of_row W _ 0 _ _ hlw,frozen_of_row W _ 1 _ _ hlw,hlw,(hbW.block (m+1) hm1).trans hb,HA.out.mp.same (hbW.block m (by show m<wr.heap.size; omega)),HA.out.ch.trans (Chf.of (w:=wr) ⟨hbW.os,hbW.tape,hbW.output,hbW.size,hbW.block⟩ (by omega)),fun v l ho=>own_next (w:=wr) ho ⟨hbW.os,hbW.tape,hbW.output,hbW.size,hbW.block⟩ (Nat.le_refl _)⟩
    ·rw [cell_of_row W _ 0 _ _ (0,0) hlw]; rfl
    ·rw [cell_of_row W _ 1 _ _ (0,0) hlw]; rfl
   clear hb hl zl zd hd' HDj hTw
   go_upto_region 12 with (fail)
   go_region
   go_upto_region 15 with (go_at_call 227; with_reducible refine (HNd.out _ HTd.out).mono ?_; rintro e w4 ⟨rfl,hb4⟩; obtain ⟨p0,p1,p2,p3,P⟩:=HW.out _ hb4)
   obtain ⟨hl4,hb5,hm4,hc4,ho4⟩:=P
   have es1:=heap_setCell_same w4 w.heap.size 0 _ 249 (.int .i64 ((j:Int)+1)) hl4
   have es2:=heap_setCell_same _ w.heap.size 1 _ 249 (.int .u64 ((a:Int) / 2)) es1
   have hm1:m+1<w.heap.size:=HK.out.lt
   have hnb : ∀ b,b≠w.heap.size→((w4.setCell ⟨w.heap.size,0,none⟩ (.int .i64 ((j:Int)+1))).setCell ⟨w.heap.size,1,none⟩ (.int .u64 ((a:Int) / 2))).heap[b]? = w4.heap[b]? := fun b hb =>
    (Below.heap_setCell _ ⟨w.heap.size,1,none⟩ _ b hb).trans (Below.heap_setCell _ ⟨w.heap.size,0,none⟩ _ b hb)
   have hc5:Chf m w ((w4.setCell ⟨w.heap.size,0,none⟩ (.int .i64 ((j:Int)+1))).setCell ⟨w.heap.size,1,none⟩ (.int .u64 ((a:Int) / 2))) :=
    (hc4.set 0 _ (.inr (Nat.le_refl _)) (by omega)).set 1 _ (.inr (Nat.le_refl _)) (by omega)
   have hb6:=(hnb (m+1) (by omega)).trans hb5
   have hm5:=hm4.same (hnb m (by omega))
   have ho5 : ∀ v l,OwnS wr (w.heap.size+1) v l→OwnS ((w4.setCell ⟨w.heap.size,0,none⟩ (.int .i64 ((j:Int)+1))).setCell ⟨w.heap.size,1,none⟩ (.int .u64 ((a:Int) / 2))) (w.heap.size+1) v l:=fun v l ho=>by
    obtain ⟨g1,g2⟩:=ho4 v l ho
    refine ⟨g1,?_⟩
    rcases g2 with g2 | ⟨g,cap,cur,rfl,hg,hh,r⟩
    ·exact .inl g2
    ·exact .inr ⟨g,cap,cur,rfl,hg,(hnb g (by omega)).trans hh,r⟩
   obtain ⟨w5,hw5⟩ : ∃ w5,(w4.setCell ⟨w.heap.size,0,none⟩ (.int .i64 ((j:Int)+1))).setCell ⟨w.heap.size,1,none⟩ (.int .u64 ((a:Int) / 2))=w5:=⟨_,rfl⟩
   rw [hw5] at es2 hc5 hb6 hm5
   rw [hw5]
   have hl5:w5.heap[w.heap.size]? = some (.cells #[.int .i64 ((j:Int)+1),.int .u64 ((a:Int) / 2)] 249 (0,0)):=es2
   have ho6 : ∀ v l,OwnS wr (w.heap.size+1) v l→OwnS w5 (w.heap.size+1) v l:=fun v l ho=>by rw [← hw5]; exact ho5 v l ho
   obtain ⟨es,cl,hup,hm6⟩:=(hm5.same (W:=w5.drew) rfl).write (h:=((j+1:Nat):Int)) (k:=q) ⟨⟨by omega,by omega⟩,by omega⟩ d'
   rw [show d'=nd (clk k) (L++[s]) (j+1) q by rw [HD2.out,e1],fj_step (clk k) L s j q hq'] at hm6
   have hz5:w.heap.size<w5.heap.size:=(Array.getElem?_eq_some_iff.1 hl5).1
   have hc6:Chf m w (ChangeMaps.setBlock w5.drew m (.map es cl)):=(Chf.next hc5 (Below.refl _ _).drew (by omega)).put _
   have hb7:(ChangeMaps.setBlock w5.drew m (.map es cl)).heap[m+1]? = _:=(set_other _ (by omega)).trans hb6
   have hl6:(ChangeMaps.setBlock w5.drew m (.map es cl)).heap[w.heap.size]? = _:=(set_other _ (by omega)).trans hl5
   have ho7:OwnS (ChangeMaps.setBlock w5.drew m (.map es cl)) (w.heap.size+1) u8 (nw (clk k) (L++[s]) j):=by
    obtain ⟨g1,g2⟩:=ho6 _ _ HA.out.own
    refine ⟨g1,?_⟩
    rcases g2 with g2 | ⟨g,cap,cur,e,hg,hh,r⟩
    ·exact .inl g2
    ·exact .inr ⟨g,cap,cur,e,hg,(set_other _ (by omega)).trans hh,r⟩
   obtain ⟨w6,hw6⟩ : ∃ w6,ChangeMaps.setBlock w5.drew m (.map es cl)=w6:=⟨_,rfl⟩
   rw [hw6] at hup hm6 hc6 hb7 hl6 ho7
   have x2:w5.cell? ⟨m+1,2,none⟩=some (.map (some m)):=by rw [cell_of_row w5 (m+1) 2 _ _ (0,0) hb6]; rfl
   have y0:w5.cell? ⟨w.heap.size,0,none⟩=some (.int .i64 ((j:Int)+1)):=by rw [cell_of_row w5 _ 0 _ _ (0,0) hl5]; rfl
   have y1:w5.cell? ⟨w.heap.size,1,none⟩=some (.int .u64 ((a:Int) / 2)):=by rw [cell_of_row w5 _ 1 _ _ (0,0) hl5]; rfl
   unfold kv nv at hup
   have ea:(a:Int) / 2=(q:Int):=by omega
   rw [← ea,show ((j+1:Nat):Int)=(j:Int)+1 by omega] at hup
   have HY:Hid (d'.size≤9223372036854775807):=by show d'.size≤_; rw [HD2.out,nd_size hkk]; omega
   have HO:=hide ho7
   have HZ6:Hid (w.heap.size<w6.heap.size):=(Array.getElem?_eq_some_iff.1 hl6).1
   have HLn:Hid ((nw (clk k) (L++[s]) j).length≤17):=by show _≤_; rw [nw_len]; omega
   have HG:Hid (Mp w6 m (fj (clk k) L s (j+1))∧Chf m w w6∧w6.heap[m+1]? = some (.cells #[.int .i64 k,.int .u64 ((L.length+1:Nat):Int),.map (some m)] 172 (0,0))∧w6.heap[w.heap.size]? = some (.cells #[.int .i64 ((j+1:Nat):Int),.int .u64 (((L.length+1) / 2^(j+1) - 1:Nat):Int)] 249 (0,0))∧m+1<w.heap.size) :=
    ⟨hm6,hc6,hb7,by rw [hl6,e1,← ea]; rfl,hm1⟩
   clear hw6 hw5 es1 es2 hb4 hl4 hb5 hm4 hc4 ho4 hnb hc5 hb6 hm5 ho5 hl5 ho6 hm6 hz5 hc6 hb7 hl6 ho7 hlook hfl HW HNd HTd z0 z2 l0 l1 p0 p1 p2 p3 ea hq' e1 e2 hab
   go_region
   go_wp2_with (at_builtin; refine wpList_append_S _ rfl _ _ rfl (w.heap.size+1) _ _ rfl (own_al HO.out _) (some ⟨w6.heap.size,0,none⟩) w6.heap.size 0 1 [d'] rfl (rds_one w6 d' HY.out) (fun h=>by cases h) ?c1 ?c2 ?_)
   case c1=>have:=HLn.out; simp; omega
   case c2=>have:=HZ6.out; simp; omega
   intro v2 w7 h7 hb7
   have HA2:Hid (Ap w w7 m k L s (j+1) v2):=by
    obtain ⟨g1,g2,g3,g4,g5⟩:=HG.out
    have hz6:=HZ6.out
    have hbb:Below (w.heap.size+1) w6 w7:=((Below.refl _ _).alloc (by omega) _).trans hb7
    have hcc:Chf m w w7:=⟨g2.below.trans (hbb.mono (by omega)),fun b hb x y=>(hbb.block b (by omega)).trans (g2.block b hb x y)⟩
    refine ⟨(hbb.block _ (by omega)).trans g3,(hbb.block _ (by omega)).trans g4,g1.same (hbb.block m (by omega)),?_,hcc⟩
    rw [nw_succ,List.length_append,List.length_singleton,← HD2.out]
    exact h7
   clear h7 hb7
   go_wp2
   go_roundg (t - (j+1))
   case rel =>
    go_light
    exact ⟨j+1,d',by omega,rfl,rfl,HD2,by go_num,HA2⟩
   case measure=>go_light; omega
  ·obtain rfl:j=t:=by omega
   have hz : ¬ ((j:Int)<(j:Int)):=by omega
   go_wp2
   go_ret2
   have hm2:=HA.out.mp
   rw [fj_end (clk k) L s j hL HHT.out] at hm2
   refine ⟨_,rfl,⟨?_,hm2,HK.out.k1,HK.out.k2,by simp; omega⟩,own_mono HA.out.own (by omega),HA.out.ch⟩
   rw [HA.out.blk]
   simp
end Go.Proofs.YtoblgjledefdbaaGreatDoor
namespace Go.Proofs.YtoblgjledefdbaaGreatDoor
open Go.RowKit
attribute [local go_sem ↓] Go.wp_at_zero Go.wp_at_succ
attribute [local go_sem ↓] St.exec_appR
theorem run_app_L (w:World) (ty B:Nat) (v:Value) (L:List ByteArray) (hown:OwnS w B v L) (ad:Addr) (mc:Nat) (c:ByteArray) (hr : ∀ j u,[Value.string c][j]? = some u→w.cell? (ad.add j)=some u)
  (hlen:L.length+1≤1048576) (hB:B≤w.heap.size) :
  ∃ v' w',(Builtin.append_ #[22,22] ty #[v,.slice (some ad) 1 mc]).run Tryz.prog w = .ok v' w'∧OwnS w' B v' (L++[c])∧St.WentE w w' v v':=by
 obtain ⟨i0,hi,hz0,hz1,hz2⟩:=info_parts Tryz.infoS
 have hap : ∀ {w':World} {v':Value} {n:Nat},n=L.length+1→w'.ownsRow B 9 1 v' n (L.map Value.string++[.string c])→OwnS w' B v' (L++[c]):=fun hn h=>by
  rw [OwnS,List.map_append,List.length_append,List.length_cons,List.length_nil,Nat.zero_add,← hn]; exact h
 have h1c : ∀ u∈([.string c]:List Value),u.oneCell'=true:=by intro u hu; simp at hu; subst hu; rfl
 have hown0:=hown
 rcases hown.2 with ⟨rfl,h0⟩ | ⟨g,cp,cur,rfl,hgb,hh,hc⟩
 ·have hL:L=[]:=List.length_eq_zero_iff.1 h0
  subst hL
  obtain ⟨v',w',hrun,r1,r2,_⟩:=run_append_own (P:=Tryz.prog) w w.heap.size 22 ty 9 i0 (.string ByteArray.empty) 1 16 Tryz.underlying22 hi hz0 hz1 hz2 rfl (by decide) _ 0 [] (World.ownsRow_nil _ _ _ _) ad 1 mc [.string c] rfl hr h1c (by decide) (by decide) (Nat.le_refl _)
  exact ⟨v',w',hrun,hap rfl (by simpa using World.ownsRow.mono r1 hB),.inr ⟨r2,fun k hk=>(World.ownsRow.lt r1 k hk).1⟩⟩
 ·by_cases hfit:L.length+1≤cp
  ·obtain ⟨w',hrun,r1,r2⟩:=run_append_fits (P:=Tryz.prog) w B 22 ty 9 i0 1 Tryz.underlying22 hi hz1 g L.length cp (L.map Value.string) hown0 ad 1 mc [.string c] rfl hr h1c hfit
   exact ⟨_,w',hrun,hap rfl r1,.inl ⟨g,L.length,cp,rfl,rfl,r2⟩⟩
  ·obtain ⟨v',w',hrun,r1,r2⟩:=run_append_arg_grows (P:=Tryz.prog) w 22 ty 9 i0 (.string ByteArray.empty) 1 16 Tryz.underlying22 hi hz0 hz1 hz2 rfl (by decide) ⟨g,0,none⟩ L.length cp (L.map Value.string) hown0.1 (World.ownsRow.cells hown0 rfl) ad 1 mc [.string c] rfl hr (by omega) (by unfold maxLen; omega) (by omega)
   exact ⟨v',w',hrun,hap rfl (World.ownsRow.mono r1 hB),.inr ⟨r2,fun k hk=>(World.ownsRow.lt r1 k hk).1⟩⟩
def TkQ (w:World) (g:Int) (a q p m r:Nat) (vr vs:Value) (T:Nat→Prop) (D:St.DV) (S:St.SV) (L:List ByteArray) (x:ByteArray) (r':Nat) (vr':Value) (W:World):Prop :=
 ∃ vs',Led W g a q p m r' vr' vs' T D S (L++[x])∧St.Upo (Lef a m r vr vs) w W ∧ ∀ b,vs'.ownBlock=some b→vs.ownBlock=some b∨w.heap.size≤b
section
variable {w w1 w2:World} {g:Int} {a q p m r r':Nat} {vr vs vr':Value} {T:Nat→Prop} {D:St.DV} {S:St.SV} {L:List ByteArray} {x:ByteArray}
structure Nw (w:World) (T:Nat→Prop) (vs:Value) (S:St.SV) (L:List ByteArray) (x:ByteArray) (r':Nat) (vr':Value):Prop where
 rg:Kp.Rg w r' vr' (S.k:Int) (L.length+1) (pkL S.k (L++[x]))
 nt : ¬ T r'
 nv : ∀ b,vr'.ownBlock=some b → ¬ T b∧vs.ownBlock≠some b
theorem two_ty {w:World} {b:Nat} {c c':Array Value} {t t':TypeId} {f f':Nat×Nat} (h:w.heap[b]? = some (.cells c t f)) (h':w.heap[b]? = some (.cells c' t' f')) (hne:t≠t'):False:=by
 rw [h] at h'
 injection h' with h'
 injection h' with _ h'
 exact hne h'
theorem take_tail (h:Led w g a q p m r vr vs T D S L) (hL:L.length<65536) (hx:x.size≤1048576) (hn:Nw w T vs S L x r' vr') (hb1:Below w.heap.size w w1) (hz1:w.heap.size<w1.heap.size)
  (hF2:Frs w2 m (S.k:Int) (L++[x])) (hU2:St.Upo (fun b=>b=m∨b=m+1) w1 w2) (w3 w4:World) (hw3:w2.setCell ⟨a,4,none⟩ (.pointer (some ⟨r',0,none⟩))=w3) (hw4:(w3.alloc (.cells #[.string (sm x)] 9)).drew=w4) :
  ∃ ao n cap w5,(Builtin.append_ #[22,22] 22 #[vs,.slice (some ⟨w3.heap.size,0,none⟩) 1 1]).run Tryz.prog w4 = .ok (.slice ao n cap) w5∧w5.heap[a]? = some (rwL g (.int .u32 0) (some ⟨q,0,none⟩) (.pointer (some ⟨m+1,0,none⟩)) (.pointer (some ⟨r',0,none⟩)) vs) ∧
   w3.heap[a]? = some (rwL g (.int .u32 0) (some ⟨q,0,none⟩) (.pointer (some ⟨m+1,0,none⟩)) (.pointer (some ⟨r',0,none⟩)) vs)∧w2.heap[a]? = some (rwL g (.int .u32 0) (some ⟨q,0,none⟩) (.pointer (some ⟨m+1,0,none⟩)) (.pointer (some ⟨r,0,none⟩)) vs) ∧
   TkQ w g a q p m r vr vs T D S L x r' vr' (w5.setCell ⟨a,5,none⟩ (.slice ao n cap)):=by
 obtain ⟨n1,n2,n3,n4,n5⟩:=h.nr
 have hrn:r'≠m∧r'≠m+1∧r'≠a:=by
  refine ⟨?_,?_,?_⟩
  ·rintro rfl
   obtain ⟨es,c,hx,_⟩:=h.fr.mp
   rw [hn.rg.blk] at hx; cases hx
  ·rintro rfl
   exact two_ty hn.rg.blk h.fr.blk (by decide)
  ·rintro rfl
   exact two_ty hn.rg.blk h.blk (by decide)
 have hvn : ∀ b,(vs.ownBlock=some b∨vr'.ownBlock=some b)→b≠m∧b≠m+1∧b≠a∧b<w.heap.size:=fun b hb=>by
  have hr : ∃ cur,w.heap[b]? = some (.cells cur 9 (0,0)):=hb.elim (row_blk h.own) (row_blk hn.rg.own)
  obtain ⟨cur,hc⟩:=hr
  refine ⟨?_,?_,?_,(Array.getElem?_eq_some_iff.1 hc).1⟩
  ·rintro rfl
   obtain ⟨es,c,hx,_⟩:=h.fr.mp
   rw [hc] at hx; cases hx
  ·rintro rfl
   exact two_ty hc h.fr.blk (by decide)
  ·rintro rfl
   exact two_ty hc h.blk (by decide)
 have hr'lt:=hn.rg.lt
 have halt:a<w.heap.size:=h.lt (.inl rfl)
 -- the worlds
 have b2 : ∀ b,b<w.heap.size→b≠m→b≠m+1→w2.heap[b]? = w.heap[b]? := fun b hb e1 e2=>(hU2.block b (by omega) (fun e=>e.elim e1 e2)).trans (hb1.block b hb)
 have s2:=hU2.size
 have b3 : ∀ b,b≠a→w3.heap[b]? = w2.heap[b]? := fun b hb=>by rw [← hw3]; exact Below.heap_setCell _ _ _ _ hb
 have s3:w3.heap.size=w2.heap.size:=by rw [← hw3]; simp
 have u4:Below w3.heap.size w3 w4:=by rw [← hw4]; exact (bal (Below.refl _ _) _).drew
 have s4:w4.heap.size=w3.heap.size+1:=by rw [← hw4]; simp
 have a2:w2.heap[a]? = some (rwL g (.int .u32 0) (some ⟨q,0,none⟩) (.pointer (some ⟨m+1,0,none⟩)) (.pointer (some ⟨r,0,none⟩)) vs):=(b2 a halt n1 n2).trans h.blk
 have a3:w3.heap[a]? = some (rwL g (.int .u32 0) (some ⟨q,0,none⟩) (.pointer (some ⟨m+1,0,none⟩)) (.pointer (some ⟨r',0,none⟩)) vs):=by rw [← hw3]; exact heap_setCell_same w2 a 4 _ _ _ a2
 have b4 : ∀ b,b<w.heap.size→b≠m→b≠m+1→b≠a→w4.heap[b]? = w.heap[b]? := fun b hb e1 e2 e3=>(u4.block b (by omega)).trans ((b3 b e3).trans (b2 b hb e1 e2))
 have o4:OwnS w4 0 vs (smL L):=St.row_keep h.own fun b hb=>b4 b (hvn b (.inl hb)).2.2.2 (hvn b (.inl hb)).1 (hvn b (.inl hb)).2.1 (hvn b (.inl hb)).2.2.1
 have c4 : ∀ j u,[Value.string (sm x)][j]? = some u→w4.cell? ((⟨w3.heap.size,0,none⟩:Addr).add j)=some u:=fun j u hu=>by
  rw [← hw4]
  show (w3.alloc (.cells #[.string (sm x)] 9)).cell? _=some u
  exact St.one_new w3 _ _ j u hu
 have hlen:(smL L).length=L.length:=by simp [smL]
 obtain ⟨v',w5,hap,o5,g5⟩:=run_app_L w4 22 0 vs (smL L) o4 ⟨w3.heap.size,0,none⟩ 1 (sm x) c4 (by omega) (Nat.zero_le _)
 obtain ⟨ao,n,cap,rfl⟩:=own_slice3 o5
 have t5:St.Upo (fun b=>vs.ownBlock=some b) w4 w5:=by
  rcases g5 with ⟨g,n,c,e1,e2,g3⟩ | ⟨g3,_⟩
  ·rw [e1]; exact St.Upo.grown g3 (fun b hb=>by cases hb; rfl)
  ·exact St.Upo.grown g3 (fun b hb=>by cases hb)
 have hv5 : ∀ b,(Value.slice ao n cap).ownBlock=some b→vs.ownBlock=some b∨w4.heap.size≤b:=fun b hb=>by
  rcases g5 with ⟨g',n,c,e1,e2,g3⟩ | ⟨_,g3⟩
  ·rw [e1]; rw [e2] at hb; exact .inl hb
  ·exact .inr (g3 b hb)
 have a5:w5.heap[a]? = some (rwL g (.int .u32 0) (some ⟨q,0,none⟩) (.pointer (some ⟨m+1,0,none⟩)) (.pointer (some ⟨r',0,none⟩)) vs):=(t5.block a (by omega) (fun e=>(hvn a (.inl e)).2.2.1 rfl)).trans ((u4.block a (by omega)).trans a3)
 refine ⟨ao,n,cap,w5,hap,a5,a3,a2,.slice ao n cap,?_,?_,fun b hb=>(hv5 b hb).imp id (fun e=>by omega)⟩
 ·have b5 : ∀ b,b<w4.heap.size→b≠a→vs.ownBlock≠some b→(w5.setCell ⟨a,5,none⟩ (.slice ao n cap)).heap[b]? = w4.heap[b]? := fun b hb e1 e2=>(Below.heap_setCell _ _ _ _ e1).trans (t5.block b hb e2)
  have hTn : ∀ b,T b→b<w.heap.size∧b≠m∧b≠m+1∧b≠a∧vs.ownBlock≠some b:=fun b hb =>
   ⟨h.sk.lt hb,fun e=>h.ap b hb (.inr (.inl e)),fun e=>h.ap b hb (.inr (.inr (.inl e))),fun e=>h.ap b hb (.inl e),fun e=>h.ap b hb (.inr (.inr (.inr (.inr (.inr e)))))⟩
  have hm2:=hF2.lt
  have hmne : ∀ b,(b=m∨b=m+1)→b<w4.heap.size∧b≠a∧vs.ownBlock≠some b:=fun b hb=>by
   refine ⟨by omega,fun e => ?_,fun e => ?_⟩
   ·rcases hb with hb | hb
    ·exact n1 (e.symm.trans hb)
    ·exact n2 (e.symm.trans hb)
   ·rcases hb with hb | hb
    ·exact (hvn b (.inl e)).1 hb
    ·exact (hvn b (.inl e)).2.1 hb
  have hk : ∀ b,(b=m∨b=m+1)→(w5.setCell ⟨a,5,none⟩ (.slice ao n cap)).heap[b]? = w2.heap[b]? := fun b hb=>by
   obtain ⟨e1,e2,e3⟩:=hmne b hb
   exact (b5 b e1 e2 e3).trans ((u4.block b (by rcases hb with rfl | rfl <;> omega)).trans (b3 b e2))
  refine ⟨heap_setCell_same w5 a 5 _ _ _ a5,h.sk.same fun b hb => ?_,hF2.same (hk m (.inl rfl)) (hk _ (.inr rfl)),⟨?_,St.row_keep hn.rg.own fun b hb => ?_,hn.rg.k1,hn.rg.k2,?_,?_,hn.rg.hs⟩,?_,?_,fun b hb hl => ?_,fun b hb => ?_⟩
  ·obtain ⟨e1,e2,e3,e4,e5⟩:=hTn b hb
   exact (b5 b (by omega) e4 e5).trans (b4 b e1 e2 e3 e4)
  ·rw [List.length_append,List.length_singleton]
   have:vs.ownBlock≠some r':=fun e=>by
    obtain ⟨cur,hc⟩:=row_blk h.own e
    exact two_ty hc hn.rg.blk (by decide)
   exact (b5 r' (by omega) hrn.2.2 this).trans ((b4 r' hr'lt hrn.1 hrn.2.1 hrn.2.2).trans hn.rg.blk)
  ·obtain ⟨e1,e2,e3,e4⟩:=hvn b (.inr hb)
   exact (b5 b (by omega) e3 (hn.nv b hb).2).trans (b4 b e4 e1 e2 e3)
  ·rw [List.length_append,List.length_singleton]; exact hn.rg.hn
  ·rw [List.length_append,List.length_singleton]; exact hn.rg.hl
  ·rw [smL,List.map_append]
   refine St.row_keep (v := .slice ao n cap) o5 fun b hb=>Below.heap_setCell _ _ _ _ ?_
   rcases hv5 b hb with e | e
   ·exact (hvn b (.inl e)).2.2.1
   ·show b≠a; omega
  ·intro s hs
   rcases List.mem_append.1 hs with e | e
   ·exact h.sz s e
   ·rw [List.mem_singleton.1 e]; exact hx
  ·obtain ⟨e1,e2,e3,e4,e5⟩:=hTn b hb
   rcases hl with e | e | e | e | e | e
   ·exact e4 e
   ·exact e2 e
   ·exact e3 e
   ·exact hn.nt (e ▸ hb)
   ·exact (hn.nv b e).1 hb
   ·exact (hv5 b e).elim e5 (fun e=>by omega)
  ·intro e
   obtain ⟨e1,e2,e3,e4⟩:=hvn b (.inr hb)
   exact (hv5 b e).elim (hn.nv b hb).2 (fun e=>by omega)
 ·have q1:St.Upo (fun b=>b=m∨b=m+1) w w2:=(St.Upo.of hb1).trans hU2 fun _ _ e=>e
  have q2:St.Upo (fun b=>b=m∨b=m+1∨b=a) w w3:=by rw [← hw3]; exact (q1.mono fun b _ e=>e.elim .inl (fun e => .inr (.inl e))).set a 4 _ (.inl (.inr (.inr rfl)))
  have q3:=(q2.next u4).mono (T:=Lef a m r vr vs) fun b _ e=>by
   rcases e with e | e | e
   ·exact .inr (.inl e)
   ·exact .inr (.inr (.inl e))
   ·exact .inl e
  exact (q3.trans t5 fun b _ e => .inr (.inr (.inr (.inr (.inr e))))).set a 5 _ (.inl (.inl rfl))
end
section
variable {g:Int} {a q p m r r':Nat} {vr vs vr':Value} {T:Nat→Prop} {D:St.DV} {S:St.SV} {L:List ByteArray} {x:ByteArray}
set_option maxRecDepth 100000 in
set_option maxHeartbeats 2000000 in
theorem ltake_any (w:World) (ht:Tb w) (h:Led w g a q p m r vr vs T D S L) (hL:L.length<65536) (hx:x.size≤1048576) (hn:Nw w T vs S L x r' vr') (va:Option Addr) (vn vc:Nat) :
  Calls Tryz.prog 97 #[.pointer (some ⟨a,0,none⟩),.agg #[.string x,.string (sm x),.slice va vn vc,.pointer (some ⟨r',0,none⟩)]] w fun e w'=>e = .returned (.tuple #[])∧TkQ w g a q p m r vr vs T D S L x r' vr' w':=by
 obtain ⟨s,hs⟩ : ∃ s,sm x=s:=⟨_,rfl⟩
 obtain ⟨w1,hw1⟩ : ∃ W,w.alloc (.cells #[.string x,.string s,.slice va vn vc,.pointer (some ⟨r',0,none⟩)] 175)=W:=⟨_,rfl⟩
 have u1:Below w.heap.size w w1:=by rw [← hw1]; exact bal (Below.refl _ _) _
 have k1:w1.heap[w.heap.size]? = some (.cells #[.string x,.string s,.slice va vn vc,.pointer (some ⟨r',0,none⟩)] 175 (0,0)):=by rw [← hw1]; exact heap_alloc_new w _
 have hz1:=(Array.getElem?_eq_some_iff.1 k1).1
 obtain ⟨b0,hb0⟩ : ∃ b,w.heap.size=b:=⟨_,rfl⟩
 rw [hb0] at k1
 have h1:=h.next u1
 have hm:=h.fr.lt
 have HF:Hid (∀ W,Below w1.heap.size w1 W→Calls Tryz.prog 163 #[.pointer (some ⟨m+1,0,none⟩),.string x] W fun e w' => ∃ v,e = .returned (.tuple #[v,.int .i64 0])∧Frs w' m (S.k:Int) (L++[x])∧St.Upo (fun b=>b=m∨b=m+1) w1 w'):=fun W hW =>
  (fappend_ok W ((ht.next u1).next hW) m S.k L (h1.next hW).fr x hx hL _ rfl).mono fun e w' z=>by
   obtain ⟨v,z1,z2,z3,z4⟩:=z
   exact ⟨v,z1,z2,(St.Upo.of hW).trans ⟨z4.below.os,z4.below.tape,z4.below.output,z4.below.size,fun b hb hne=>z4.block b hb (fun e=>hne (.inl e)) (fun e=>hne (.inr e))⟩ fun _ _ e=>e⟩
 obtain ⟨c0,c2,c3,c4,c5,cf⟩:=h1.cells
 have hax:=h1.lt (x:=a) (.inl rfl)
 have HC:Hid (∀ W,Below w1.heap.size w1 W→W.cell? ⟨a,3,none⟩=some (.pointer (some ⟨m+1,0,none⟩))∧W.cell? ⟨b0,0,none⟩=some (.string x)):=fun W hW=>⟨(hW.cell (p:=⟨a,3,none⟩) hax).trans c3,by rw [cell_of_row W b0 0 _ _ (0,0) ((hW.block _ (by omega)).trans k1)]; rfl⟩
 have HK:Hid (∀ W,St.Upo (fun b=>b=m∨b=m+1) w1 W→W.heap[b0]? = some (.cells #[.string x,.string s,.slice va vn vc,.pointer (some ⟨r',0,none⟩)] 175 (0,0))):=fun W hW=>(hW.block _ (by omega) (by omega)).trans k1
 have HC2:Hid (∀ W,St.Upo (fun b=>b=m∨b=m+1) w1 W→W.cell? ⟨a,3,none⟩=some (.pointer (some ⟨m+1,0,none⟩))∧W.cell? ⟨b0,0,none⟩=some (.string x)):=fun W hW=>by
  obtain ⟨n1,n2,_⟩:=h1.nr
  exact ⟨(World.cell?_of_block (a:=⟨a,3,none⟩) (hW.block a hax (fun e=>e.elim n1 n2))).trans c3,by rw [cell_of_row W b0 0 _ _ (0,0) (HK.out W hW)]; rfl⟩
 have HT:=hide (fun (W:World) (z1:Frs W m (S.k:Int) (L++[x])) (z2:St.Upo (fun b=>b=m∨b=m+1) w1 W)=>take_tail h hL hx hn u1 hz1 z1 z2 _ _ rfl rfl)
 obtain ⟨va2,vl2,vn2,rfl⟩:=own_slice3 h.own
 have hne : ¬ b0=a:=by have:=h.lt (x:=a) (.inl rfl); omega
 have u:Below w1.heap.size w1 w1.drew:=(Below.refl _ _).drew
 rw [hs] at HT ⊢
 have HW1:=hide hw1
 have HB0:=hide hb0
 obtain ⟨d3,d4⟩:=HC.out _ (Below.refl _ _)
 clear ht h h1 hx hL hn k1 u1 c0 c2 c3 c4 c5 cf hs hz1 hw1 hb0 hax hm
 go_enter Tryz.func97,Tryz.ntmps97
 go_upto_region 1 with (fail)
 rw [HW1.out,HB0.out]
 go_region_held3 (fun Z=>Z.cell? ⟨a,3,none⟩=some (.pointer (some ⟨m+1,0,none⟩))∧Z.cell? ⟨b0,0,none⟩=some (.string x)) (first | assumption | (with_reducible exact HC2.out _ u2) | (with_reducible exact HC.out _ u)) (first
  | (go_at_call 163; (with_reducible refine (HF.out _ u).mono ?_); rintro e w2 ⟨v,rfl,f2,u2⟩))
 all_goals
  obtain ⟨ao,n,cap,w5,hap,a5,a3,a2,ht⟩:=HT.out w2 f2 u2
  have HZ:=hide ht
  have k2:=HK.out w2 u2
  have e3:w2.cell? ⟨b0,3,none⟩=some (.pointer (some ⟨r',0,none⟩)):=by rw [cell_of_row w2 b0 3 _ _ (0,0) k2]; rfl
  obtain ⟨_,_,_,d4,_,df⟩:=rwL_at a2
  have f4:=df 4
  obtain ⟨w3,hw3⟩ : ∃ W,w2.setCell ⟨a,4,none⟩ (.pointer (some ⟨r',0,none⟩))=W:=⟨_,rfl⟩
  rw [hw3] at hap a3
  have k3:w3.heap[b0]? = some (.cells #[.string x,.string s,.slice va vn vc,.pointer (some ⟨r',0,none⟩)] 175 (0,0)):=by rw [← hw3]; exact (Below.heap_setCell _ _ _ _ hne).trans k2
  clear ht HT HK HC HC2 HF f2 u2 d3 df k2 a2
  obtain ⟨_,_,_,_,q5,_⟩:=rwL_at a3
  obtain ⟨_,_,_,_,q6,qf⟩:=rwL_at a5
  have q7:=qf 5
  have x1:w3.cell? ⟨b0,1,none⟩=some (.string s):=by rw [cell_of_row w3 b0 1 _ _ (0,0) k3]; rfl
  have ub:Below w3.heap.size w3 (w3.alloc (.cells #[.string s] 9)).drew:=(bal (Below.refl _ _) _).drew
  have q8:(w3.alloc (.cells #[.string s] 9)).drew.cell? ⟨a,5,none⟩=_:=(ub.cell (p:=⟨a,5,none⟩) (Array.getElem?_eq_some_iff.1 a3).1).trans q5
  have x2:(w3.alloc (.cells #[.string s] 9)).drew.cell? ⟨b0,1,none⟩=_:=(ub.cell (p:=⟨b0,1,none⟩) (Array.getElem?_eq_some_iff.1 k3).1).trans x1
  have ha:=St.appR_of hap
  have hne2 : ¬ a=b0:=fun e=>hne e.symm
  clear a5 a3 k3 ub qf hap
  go_upto_region 3 with (fail)
  go_region
  all_goals
   go_wp2
   exact bodyPost_end (results_none rfl _ Tryz.prog _) rfl ⟨rfl,HZ.out⟩
end
end Go.Proofs.YtoblgjledefdbaaGreatDoor
