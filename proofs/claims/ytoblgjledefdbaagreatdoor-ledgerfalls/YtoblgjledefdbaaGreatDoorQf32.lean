/- Own work. -/
import Derived.Test.YtoblgjledefdbaaGreatDoorQf29
import Derived.Test.YtoblgjledefdbaaGreatDoorQf31
namespace Go.Proofs.YtoblgjledefdbaaGreatDoor
open Go.RowKit
def Lef (a m r:Nat) (vr vs:Value) (x:Nat):Prop:=x=a∨x=m∨x=m+1∨x=r∨vr.ownBlock=some x∨vs.ownBlock=some x
structure Led (w:World) (g:Int) (a q p m r:Nat) (vr vs:Value) (T:Nat→Prop) (D:St.DV) (S:St.SV) (L:List ByteArray):Prop where
 blk:w.heap[a]? = some (rwL g (.int .u32 0) (some ⟨q,0,none⟩) (.pointer (some ⟨m+1,0,none⟩)) (.pointer (some ⟨r,0,none⟩)) vs)
 sk:St.Sk w q p T D S
 fr:Frs w m (S.k:Int) L
 rg:Kp.Rg w r vr (S.k:Int) L.length (pkL S.k L)
 own:OwnS w 0 vs (smL L)
 sz : ∀ s∈L,s.size≤1048576
 ap : ∀ x,T x → ¬ Lef a m r vr vs x
 av : ∀ x,vr.ownBlock=some x→vs.ownBlock≠some x
section
variable {w W:World} {g:Int} {a q p m r:Nat} {vr vs:Value} {T:Nat→Prop} {D D':St.DV} {S S':St.SV} {L:List ByteArray}
theorem own_lt {B:Nat} {v:Value} {l:List ByteArray} (h:OwnS w B v l) {x:Nat} (hx:v.ownBlock=some x):x<w.heap.size:=(World.ownsRow.lt h x hx).2
theorem row_blk {B T s n:Nat} {v:Value} {xs:List Value} (h:w.ownsRow B T s v n xs) {x:Nat} (hx:v.ownBlock=some x) : ∃ cur,w.heap[x]? = some (.cells cur T (0,0)):=by
 obtain ⟨_,h2⟩:=h
 rcases h2 with ⟨rfl,_⟩ | ⟨g,cap,cur,rfl,_,hh,_⟩
 ·cases hx
 ·cases hx
  exact ⟨cur,hh⟩
theorem Led.k1 (h:Led w g a q p m r vr vs T D S L):1≤S.k∧S.k≤32:=⟨h.sk.small.1,h.sk.small.2.1⟩
theorem Led.clk (h:Led w g a q p m r vr vs T D S L):clk (S.k:Int)=S.k:=by
 have:=clk_of h.fr.k1 h.fr.k2
 omega
theorem Led.lt (h:Led w g a q p m r vr vs T D S L) {x:Nat} (hx:Lef a m r vr vs x):x<w.heap.size:=by
 rcases hx with rfl | rfl | rfl | rfl | e | e
 ·exact (Array.getElem?_eq_some_iff.1 h.blk).1
 ·have:=h.fr.lt; omega
 ·exact h.fr.lt
 ·exact h.rg.lt
 ·exact own_lt h.rg.own e
 ·exact own_lt h.own e
theorem Led.same (h:Led w g a q p m r vr vs T D S L) (h1 : ∀ x,T x→W.heap[x]? = w.heap[x]?) (h2 : ∀ x,Lef a m r vr vs x→W.heap[x]? = w.heap[x]?):Led W g a q p m r vr vs T D S L :=
 ⟨(h2 a (.inl rfl)).trans h.blk,h.sk.same h1,h.fr.same (h2 m (.inr (.inl rfl))) (h2 _ (.inr (.inr (.inl rfl)))),
  ⟨(h2 r (.inr (.inr (.inr (.inl rfl))))).trans h.rg.blk,St.row_keep h.rg.own fun x hx=>h2 x (.inr (.inr (.inr (.inr (.inl hx))))),h.rg.k1,h.rg.k2,h.rg.hn,h.rg.hl,h.rg.hs⟩,
  St.row_keep h.own fun x hx=>h2 x (.inr (.inr (.inr (.inr (.inr hx))))),h.sz,h.ap,h.av⟩
theorem Led.next (h:Led w g a q p m r vr vs T D S L) (hb:Below w.heap.size w W):Led W g a q p m r vr vs T D S L :=
 h.same (fun x hx=>hb.block x (h.sk.lt hx)) (fun x hx=>hb.block x (h.lt hx))
theorem Led.nr (h:Led w g a q p m r vr vs T D S L):a≠m∧a≠m+1∧a≠r∧(∀ x,vr.ownBlock=some x→x≠a) ∧ ∀ x,vs.ownBlock=some x→x≠a:=by
 have hb:=h.blk
 refine ⟨?_,?_,?_,?_,?_⟩
 ·rintro rfl
  obtain ⟨es,c,hx,_⟩:=h.fr.mp
  rw [hb] at hx; cases hx
 ·rintro rfl
  have:=h.fr.blk
  rw [hb] at this; cases this
 ·rintro rfl
  have:=h.rg.blk
  rw [hb] at this; cases this
 ·rintro x hx rfl
  obtain ⟨cur,hc⟩:=row_blk h.rg.own hx
  rw [hb] at hc; cases hc
 ·rintro x hx rfl
  obtain ⟨cur,hc⟩:=row_blk h.own hx
  rw [hb] at hc; cases hc
theorem Led.lock {g':Int} (h:Led w g a q p m r vr vs T D S L) (ho : ∀ b,b<w.heap.size→b≠a→W.heap[b]? = w.heap[b]?) (hr:W.heap[a]? = some (rwL g' (.int .u32 0) (some ⟨q,0,none⟩) (.pointer (some ⟨m+1,0,none⟩)) (.pointer (some ⟨r,0,none⟩)) vs)):Led W g' a q p m r vr vs T D S L:=by
 obtain ⟨n1,n2,n3,n4,n5⟩:=h.nr
 have hk : ∀ x,Lef a m r vr vs x→x≠a→W.heap[x]? = w.heap[x]? := fun x hx hne=>ho x (h.lt hx) hne
 exact ⟨hr,h.sk.same fun x hx=>ho x (h.sk.lt hx) (fun e=>h.ap x hx (.inl e)),h.fr.same (hk m (.inr (.inl rfl)) n1.symm) (hk _ (.inr (.inr (.inl rfl))) n2.symm),
  ⟨(hk r (.inr (.inr (.inr (.inl rfl)))) n3.symm).trans h.rg.blk,St.row_keep h.rg.own fun x hx=>hk x (.inr (.inr (.inr (.inr (.inl hx))))) (n4 x hx),h.rg.k1,h.rg.k2,h.rg.hn,h.rg.hl,h.rg.hs⟩,
  St.row_keep h.own fun x hx=>hk x (.inr (.inr (.inr (.inr (.inr hx))))) (n5 x hx),h.sz,h.ap,h.av⟩
theorem Led.lkd (h:Led w 0 a q p m r vr vs T D S L) (hL:Lkd a w W):Led W 1 a q p m r vr vs T D S L:=h.lock hL.oth (hL.self _ _ _ _ _ h.blk)
theorem Led.set (h:Led w g a q p m r vr vs T D S L) (g':Int):Led (w.setCell ⟨a,0,none⟩ (.int .i32 g')) g' a q p m r vr vs T D S L :=
 h.lock (fun _ _ hne=>Below.heap_setCell _ _ _ _ hne) (heap_setCell_same w a 0 _ _ (.int .i32 g') h.blk)
theorem Led.cells (h:Led w g a q p m r vr vs T D S L):w.cell? ⟨a,0,none⟩=some (.int .i32 g)∧w.cell? ⟨a,2,none⟩=some (.pointer (some ⟨q,0,none⟩))∧w.cell? ⟨a,3,none⟩=some (.pointer (some ⟨m+1,0,none⟩))∧w.cell? ⟨a,4,none⟩=some (.pointer (some ⟨r,0,none⟩))∧w.cell? ⟨a,5,none⟩=some vs ∧ ∀ j,w.frozen? ⟨a,j,none⟩=false:=rwL_at h.blk
end
end Go.Proofs.YtoblgjledefdbaaGreatDoor
namespace Go.Proofs.YtoblgjledefdbaaGreatDoor
open Go.RowKit
attribute [local go_sem ↓] Go.wp_at_zero Go.wp_at_succ
def stE (D:St.DV) (S:St.SV):Nat→List ByteArray→Int
 | _,[]=>0
 | p,d::ds=>if (St.nodD D S p).2≠0 then (St.nodD D S p).2 else if St.tx (St.nodD D S p).1=d then stE D S (p+1) ds else 190
theorem stE_at {D:St.DV} {S:St.SV} {p j:Nat} {ds:List ByteArray} (hj:j<ds.length) (t:ByteArray) (r:Int) (ht:St.tx (St.nodD D S (p+j)).1=t) (hr:(St.nodD D S (p+j)).2=r) :
  stE D S (p+j) (ds.drop j)=if r≠0 then r else if t=ds.getD j ByteArray.empty then stE D S (p+(j+1)) (ds.drop (j+1)) else 190:=by
 have e:ds.getD j ByteArray.empty=ds[j]:=by rw [List.getD_eq_getElem?_getD,List.getElem?_eq_getElem hj]; rfl
 rw [List.drop_eq_getElem_cons hj,stE,ht,hr,e,Nat.add_assoc]
theorem stE_end (D:St.DV) (S:St.SV) (p:Nat) (ds:List ByteArray):stE D S (p+ds.length) (ds.drop ds.length)=0:=by
 rw [List.drop_length]; rfl
theorem bytes_loop (bs:ByteArray) : ∀ (n i:Nat) (r:List UInt8),bs.size - i=n→ByteArray.toList.loop bs i r=r.reverse++bs.data.toList.drop i:=by
 intro n
 induction n with
 | zero =>
  intro i r h
  rw [ByteArray.toList.loop,if_neg (by omega)]
  rw [List.drop_eq_nil_of_le (by simp; exact (by omega:bs.size≤i)),List.append_nil]
 | succ n ih =>
  intro i r h
  have hi:i<bs.size:=by omega
  rw [ByteArray.toList.loop,if_pos hi,ih (i+1) _ (by omega)]
  have hl:i<bs.data.toList.length:=by simp; exact hi
  rw [List.drop_eq_getElem_cons hl,List.reverse_cons,List.append_assoc]
  have:bs.get! i=bs.data.toList[i]:=by
   show bs.data[i]! = _
   have hi2:i<bs.data.size:=hi
   rw [getElem!_pos bs.data i hi2]
   simp
  rw [this]; rfl
theorem bytes_eq (bs:ByteArray):bs.toList=bs.data.toList:=by
 rw [ByteArray.toList,bytes_loop bs bs.size 0 [] rfl]; rfl
theorem bne_text {x y:ByteArray} (h:x≠y):(x.toList == y.toList)=false:=by
 rw [bytes_eq,bytes_eq]
 simp only [beq_eq_false_iff_ne,ne_eq]
 intro e
 exact h (ByteArray.ext (Array.toList_inj.1 e))
section
variable {w W:World} {g:Int} {a q p m r:Nat} {vr vs:Value} {T:Nat→Prop} {D D':St.DV} {S S':St.SV} {L:List ByteArray}
set_option maxRecDepth 100000 in
set_option maxHeartbeats 2000000 in
theorem stand_any (w:World) (h:Led w g a q p m r vr vs T D S L) (pl:Nat) (ao:Option Addr) (b len cap:Nat) (ds:List ByteArray) (hr:RdS w ao b 0 len ds) (hz:len≤1000) (hpl:pl≤1000000) (e0:Int) (he:stE D S pl ds=e0) :
  Calls Tryz.prog 96 #[.pointer (some ⟨a,0,none⟩),.int .u64 (pl:Int),.slice ao len cap] w fun e w'=>e = .returned (.int .i64 e0)∧Below w.heap.size w w':=by
 have hl:=hr.hl
 have hc:=h.cells.2.1
 have hax:=World.block_lt_of_cell? _ _ hc
 have HC:Hid (∀ W,Below w.heap.size w W→W.cell? ⟨a,2,none⟩=some (.pointer (some ⟨q,0,none⟩))):=fun W hW=>(hW.cell (p:=⟨a,2,none⟩) hax).trans hc
 have HR:Hid (∀ W,Below w.heap.size w W→RdS W ao b 0 len ds):=fun W hW=>hr.next hW (Nat.le_refl _)
 have HN:Hid (∀ (W:World) (i:Nat) (t:ByteArray) (y:Int),Below w.heap.size w W→i<18446744073709551616→St.tx (St.nodD D S i).1=t→(St.nodD D S i).2=y→Calls Tryz.prog 162 #[.pointer (some ⟨q,0,none⟩),.int .u64 (i:Int)] W fun e w'=>e = .returned (.tuple #[.string t,.int .i64 y])∧Below w.heap.size w w'):=fun W i t y hW hi g1 g2=>(St.fnode_any W (h.sk.next hW) i hi t y g1 g2).mono fun e w' z=>⟨z.1,bnext hW z.2⟩
 have HE:=hide he
 have hptr:=hr.ptr
 clear h hr he hc
 go_enter Tryz.func96,Tryz.ntmps96
 go_wp2
 go_loopg [13] len (fun g x wr => ∃ j:Nat,j≤len∧g=len - j∧x = .int .i64 (j:Int)∧Hid (stE D S (pl+j) (ds.drop j)=stE D S pl ds)∧Hid (Below w.heap.size w wr))
 case atStart =>
  go_light
  exact ⟨0,Nat.zero_le _,rfl,rfl,rfl,Below.refl _ _⟩
 case round =>
  obtain ⟨j,hj,rfl,rfl,HS,HB⟩:=hrel
  by_cases hlt:j<len
  ·have hzj:(j:Int)<(len:Int):=by omega
   obtain rfl:=hptr (by omega)
   obtain ⟨d,hd⟩ : ∃ d,ds.getD j ByteArray.empty=d:=⟨_,rfl⟩
   have c0:=(HR.out wr HB.out).at hlt
   rw [hd,Nat.zero_add] at c0
   have c2:=HC.out wr HB.out
   obtain ⟨t,ht⟩ : ∃ t,St.tx (St.nodD D S (pl+j)).1=t:=⟨_,rfl⟩
   obtain ⟨y,hy⟩ : ∃ y,(St.nodD D S (pl+j)).2=y:=⟨_,rfl⟩
   have hs:=stE_at (D:=D) (S:=S) (p:=pl) (j:=j) (ds:=ds) (by omega) t y ht hy
   rw [HS.out,hd,HE.out] at hs
   obtain ⟨i,hi⟩ : ∃ i,pl+j=i:=⟨_,rfl⟩
   rw [hi] at ht hy
   have HN1:Hid (Calls Tryz.prog 162 #[.pointer (some ⟨q,0,none⟩),.int .u64 (i:Int)] wr fun e w'=>e = .returned (.tuple #[.string t,.int .i64 y])∧Below w.heap.size w w'):=HN.out wr i t y HB.out (by omega) ht hy
   have ew1:IntKind.u64.wrap (j:Int)=(j:Int):=by rw [IntKind.wrap_u64]; omega
   have ew2:IntKind.u64.wrap ((pl:Int)+(j:Int))=(i:Int):=by rw [IntKind.wrap_u64]; omega
   have ew3:IntKind.i64.wrap ((j:Int)+1)=((j+1:Nat):Int):=by rw [IntKind.wrap_i64]; omega
   have HQ:Hid (y≠0→e0=y):=fun q=>by rw [if_pos q] at hs; exact hs
   have HQ2:Hid (y=0 → ¬ t=d→e0=190):=fun q q2=>by rw [if_neg (fun x=>x q),if_neg q2] at hs; exact hs
   have HQ3:Hid (y=0→t=d→stE D S (pl+(j+1)) (ds.drop (j+1))=stE D S pl ds):=fun q q2=>by rw [if_neg (fun x=>x q),if_pos q2] at hs; rw [HE.out]; exact hs.symm
   clear ht hy hs hd hi HS HE HR HC HN hl
   by_cases h0:y=0
   ·subst h0
    by_cases h1:t=d
    ·subst h1
     have HS2:=hide (HQ3.out rfl rfl)
     clear HQ HQ2 HQ3
     go_wp2_with (go_at_call 162; (with_reducible refine HN1.out.mono ?_); rintro e w2 ⟨rfl,u⟩)
     go_roundg (len - (j+1))
     case rel =>
      go_light
      exact ⟨j+1,by omega,rfl,rfl,HS2,u⟩
     case measure=>go_light; omega
    ·have hb:=bne_text h1
     have hz:=HQ2.out rfl h1
     subst hz
     clear HQ HQ2 HQ3
     go_wp2_with (go_at_call 162; (with_reducible refine HN1.out.mono ?_); rintro e w2 ⟨rfl,u⟩)
     go_ret
     exact ⟨rfl,u⟩
   ·have hz:=HQ.out h0
    subst hz
    have h0b:(e0 == 0)=false:=by simpa using h0
    clear HQ HQ2 HQ3
    go_wp2_with (go_at_call 162; (with_reducible refine HN1.out.mono ?_); rintro e w2 ⟨rfl,u⟩)
    go_ret
    exact ⟨rfl,u⟩
  ·have hzj : ¬ (j:Int)<(len:Int):=by omega
   obtain rfl:j=len:=by omega
   have hz:e0=0:=by
    rw [← HE.out,← HS.out,← hl]
    exact stE_end D S pl ds
   subst hz
   have u:=HB.out
   clear HS HE HR HC HN hl HB
   go_wp2
   go_ret
   exact ⟨rfl,u⟩
end
theorem field_N (w:World) (s:ByteArray):(Instr.field 315 (.agg #[.string s]) 0).run Tryz.prog w = .ok (.string s) w:=by kernel_rfl
structure Ap (w wr:World) (m:Nat) (k:Int) (L:List ByteArray) (x:ByteArray) (j:Nat) (v:Value):Prop where
 blk:wr.heap[m+1]? = some (.cells #[.int .i64 k,.int .u64 ((L.length+1:Nat):Int),.map (some m)] 172 (0,0))
 lst:wr.heap[w.heap.size]? = some (.cells #[.int .i64 (j:Int),.int .u64 (((L.length+1) / 2^j - 1:Nat):Int)] 249 (0,0))
 mp:Mp wr m (fj (clk k) L x j)
 own:OwnS wr (w.heap.size+1) v (nw (clk k) (L++[x]) j)
 ch:Chf m w wr
set_option maxRecDepth 100000 in
set_option maxHeartbeats 2000000 in
theorem fappend_ok (w:World) (ht:Tb w) (m:Nat) (k:Int) (L:List ByteArray) (hF:Frs w m k L) (s:ByteArray) (hs:s.size≤1048576) (hL:L.length<65536) (t:Nat) (hT:tr 64 (L.length+1)=t) :
  Calls Tryz.prog 163 #[.pointer (some ⟨m+1,0,none⟩),.string s] w fun e w' => ∃ v,e = .returned (.tuple #[v,.int .i64 0])∧Frs w' m k (L++[s])∧OwnS w' w.heap.size v (nw (clk k) (L++[s]) t)∧Chf m w w':=by
 have h1:decide ((1048576:Int)<(s.size:Int))=false:=decide_eq_false (by omega)
 have h2:decide ((65536:Int)≤(L.length:Int))=false:=decide_eq_false (by omega)
 have c1:=hF.c1
 have f1:=hF.fz 1
 have hlt:=hF.lt
 have hw1:IntKind.u64.wrap ((L.length:Int)+1)=((L.length+1:Nat):Int):=by rw [u64_id _ (by omega) (by omega)]; omega
 obtain ⟨d0,hd0⟩ : ∃ d0,dg (clk k) (leafT s)=d0:=⟨_,rfl⟩
 have HLf:Hid (∀ W,Tb W→Calls Tryz.prog 145 #[.int .i64 k,.string s] W fun e w'=>e = .returned (.string d0)∧Below W.heap.size W w'):=fun W hT=>leaf_any W hT k s (by omega) d0 hd0
 go_enter Tryz.func163,Tryz.ntmps163
 go_upto_region 7 with (fail)
 obtain ⟨w0,hw0⟩ : ∃ w0,(w.setCell ⟨m+1,1,none⟩ (.int .u64 ((L.length:Int)+1))).alloc (.cells #[.int .i64 0,.int .u64 (L.length:Int)] 249)=w0:=⟨_,rfl⟩
 rw [hw0]
 have hsz0:(w.setCell ⟨m+1,1,none⟩ (.int .u64 ((L.length:Int)+1))).heap.size=w.heap.size:=by simp
 have hal : ∀ q,q<w.heap.size→w0.heap[q]? = (w.setCell ⟨m+1,1,none⟩ (.int .u64 ((L.length:Int)+1))).heap[q]? := fun q hq=>by
  rw [← hw0]
  exact (MapKept.heap_alloc _ _).2 q (by rw [hsz0]; exact hq)
 have hblk0:w0.heap[m+1]? = some (.cells #[.int .i64 k,.int .u64 ((L.length:Int)+1),.map (some m)] 172 (0,0)):=by
  rw [hal _ hlt]
  exact heap_setCell_same w (m+1) 1 _ 172 (.int .u64 ((L.length:Int)+1)) hF.blk
 have hlst0:w0.heap[w.heap.size]? = some (.cells #[.int .i64 0,.int .u64 (L.length:Int)] 249 (0,0)):=by
  have:=heap_alloc_new (w.setCell ⟨m+1,1,none⟩ (.int .u64 ((L.length:Int)+1))) (.cells #[.int .i64 0,.int .u64 (L.length:Int)] 249)
  rw [hsz0,hw0] at this
  exact this
 have hmp0:Mp w0 m (ff (clk k) L):=hF.mp.same (by rw [hal m (by omega)]; exact Below.heap_setCell _ _ _ _ (by simp))
 have hz0:w.heap.size<w0.heap.size:=(Array.getElem?_eq_some_iff.1 hlst0).1
 have hch0:Chf m w w0:=by
  have h:=(Chf.refl m w).set (b:=m+1) 1 (.int .u64 ((L.length:Int)+1)) (.inl rfl) (by omega)
  have:=h.next (w2:=w0) (by rw [← hw0]; exact bal (Below.refl _ _) _) (by omega)
  exact this
 have c0:w0.cell? ⟨m+1,0,none⟩=some (.int .i64 k):=by rw [cell_of_row w0 (m+1) 0 _ _ (0,0) hblk0]; rfl
 have hTb0:=ht.chf hF hch0
 have HTb:Hid (∀ W,Chf m w W→Tb W):=fun W hc=>ht.chf hF hc
 clear hw0 hsz0 hal c1 f1 h1 h2 hw1
 go_upto_region 8 with (go_at_call 145; with_reducible refine (HLf.out _ hTb0).mono ?_; rintro e w1 ⟨rfl,hb1⟩)
 have hblk1:w1.heap[m+1]? = _:=(hb1.block (m+1) (by omega)).trans hblk0
 have hlst1:w1.heap[w.heap.size]? = _:=(hb1.block w.heap.size hz0).trans hlst0
 have hmp1:=hmp0.same (hb1.block m (by omega))
 have hch1:=hch0.next hb1 (by omega)
 obtain ⟨es,cl,hup,hmp2⟩:=(hmp1.same (W:=w1.drew) rfl).write (h:=0) (k:=L.length) ⟨⟨by omega,by omega⟩,by omega⟩ d0
 have hd0':nd (clk k) (L++[s]) 0 L.length=d0:=by rw [nd,← hd0]; simp
 rw [← hd0',fj_start] at hmp2
 have hch2:Chf m w (ChangeMaps.setBlock w1.drew m (.map es cl)):=(Chf.next hch1 (Below.refl _ _).drew (by omega)).put _
 have hblk2:(ChangeMaps.setBlock w1.drew m (.map es cl)).heap[m+1]? = _:=(set_other _ (by omega)).trans hblk1
 have hlst2:(ChangeMaps.setBlock w1.drew m (.map es cl)).heap[w.heap.size]? = _:=(set_other _ (by omega)).trans hlst1
 obtain ⟨w2,hw2⟩ : ∃ w2,ChangeMaps.setBlock w1.drew m (.map es cl)=w2:=⟨_,rfl⟩
 rw [hw2] at hup hmp2 hch2 hblk2 hlst2
 have x2:w1.cell? ⟨m+1,2,none⟩=some (.map (some m)):=by rw [cell_of_row w1 (m+1) 2 _ _ (0,0) hblk1]; rfl
 have y0:w1.cell? ⟨w.heap.size,0,none⟩=some (.int .i64 0):=by rw [cell_of_row w1 _ 0 _ _ (0,0) hlst1]; rfl
 have y1:w1.cell? ⟨w.heap.size,1,none⟩=some (.int .u64 (L.length:Int)):=by rw [cell_of_row w1 _ 1 _ _ (0,0) hlst1]; rfl
 unfold kv nv at hup
 clear hw2 hmp0 hmp1 hch0 hch1 hblk0 hlst0 hb1 hTb0 c0 HLf hblk1 hlst1
 have HTr:Hid (∀ W,Calls Tryz.prog 253 #[.int .u64 ((L.length:Int)+1)] W fun e w'=>e = .returned (.int .i64 (t:Int))∧W=w'):=fun W=>(trail_any (L.length+1) W (by omega) t hT).mono fun _ _ h=>⟨h.1,h.2.symm⟩
 have HAp:Hid (Ap w (w2.alloc (.cells #[.string d0] 9)) m k L s 0 (.slice (some ⟨w2.heap.size,0,none⟩) 1 1)):=by
  have hz2:w.heap.size<w2.heap.size:=(Array.getElem?_eq_some_iff.1 hlst2).1
  refine ⟨((MapKept.heap_alloc _ _).2 _ (by omega)).trans hblk2,((MapKept.heap_alloc _ _).2 _ hz2).trans ?_,hmp2.same ((MapKept.heap_alloc _ _).2 _ (by omega)),?_,hch2.next (bal (Below.refl _ _) _) (by omega)⟩
  ·rw [hlst2]; simp
  ·rw [nw_zero,List.length_append,List.length_singleton,Nat.add_sub_cancel,hd0']
   exact own_mono (own_one w2 d0) (by omega)
 have hc5:(w2.alloc (.cells #[.string d0] 9)).cell? ⟨m+1,1,none⟩=some (.int .u64 ((L.length:Int)+1)):=by rw [cell_of_row _ (m+1) 1 _ _ (0,0) HAp.out.blk]; rfl
 have hsh : ∀ q,q<w2.heap.size→(w2.alloc (.cells #[.string d0] 9)).heap[q]? = w2.heap[q]? := fun q hq=>(MapKept.heap_alloc _ _).2 _ hq
 have ht16:t≤16:=by rw [← hT]; exact tr_small (by omega) (by omega)
 clear hsh hmp2 hch2 hblk2 hlst2
 go_region
 go_wp2_with (go_at_call 253; with_reducible refine (HTr.out _).mono ?_; rintro e w3 ⟨rfl,rfl⟩)
 have HK:=hide hF
 have hkk:=clk_le k
 have HDd:Hid (d0=nd (clk k) (L++[s]) 0 ((L.length+1) / 2^0 - 1)):=by show d0=_; rw [Nat.pow_zero,Nat.div_one,Nat.add_sub_cancel,hd0']
 have HHT:=hide hT
 clear HTr hc5 x2 y0 y1 hup hd0' hd0 ht hF hs hz0 hT
 generalize w2.alloc (.cells #[.string d0] 9)=w3 at *
 generalize w2.heap.size=z2 at *
 go_loopg [7,8,50] t (fun g x v i wr => ∃ (j:Nat) (d:ByteArray),j≤t∧g=t - j∧x = .string d∧Hid (d=nd (clk k) (L++[s]) j ((L.length+1) / 2^j - 1))∧i = .int .i64 (j:Int)∧Hid (Ap w wr m k L s j v))
 case atStart =>
  go_light
  exact ⟨0,d0,Nat.zero_le _,rfl,rfl,HDd,rfl,HAp⟩
 case round =>
  clear HAp HDd
  obtain ⟨j,d,hj,rfl,rfl,HDj,rfl,HA⟩:=hrel
  by_cases hjt:j<t
  ·have hz:(j:Int)<(t:Int):=by omega
   have hz0:(0:Int)≤(j:Int):=Int.natCast_nonneg _
   have hz9:(j:Int)≤16:=by omega
   obtain ⟨q',hq'⟩:=tr_div (j:=j+1) HHT.out (by omega)
   obtain ⟨q,rfl⟩ : ∃ q,q'=q+1:=⟨q' - 1,by
    have:q'≠0:=by rintro rfl; simp at hq'
    omega⟩
   have e1:(L.length+1) / 2^(j+1) - 1=q:=by rw [last_at hq']; omega
   have e2:(L.length+1) / 2^j - 1=2 * q+1:=by
    rw [last_at (q:=2 * (q+1)) (by rw [hq',Nat.pow_succ,Nat.mul_assoc])]; omega
   obtain ⟨a,ha⟩ : ∃ a,2 * q+1=a:=⟨_,rfl⟩
   have hab:a≤L.length+1:=by rw [← ha,← e2]; exact Nat.le_trans (Nat.sub_le _ _) (Nat.div_le_self _ _)
   have ha1:(1:Int)≤(a:Int):=by omega
   have ha2:(a:Int)≤65536:=by omega
   obtain ⟨lf,hlf⟩ : ∃ lf,nd (clk k) (L++[s]) j (2 * q)=lf:=⟨_,rfl⟩
   have hb:=HA.out.blk
   have hl:=HA.out.lst
   rw [e2,ha] at hl
   have z0:wr.cell? ⟨m+1,0,none⟩=some (.int .i64 k):=by rw [cell_of_row wr (m+1) 0 _ _ (0,0) hb]; rfl
   have z2:wr.cell? ⟨m+1,2,none⟩=some (.map (some m)):=by rw [cell_of_row wr (m+1) 2 _ _ (0,0) hb]; rfl
   have l0:wr.cell? ⟨w.heap.size,0,none⟩=some (.int .i64 (j:Int)):=by rw [cell_of_row wr _ 0 _ _ (0,0) hl]; rfl
   have l1:wr.cell? ⟨w.heap.size,1,none⟩=some (.int .u64 (a:Int)):=by rw [cell_of_row wr _ 1 _ _ (0,0) hl]; rfl
   have hlook:=(HA.out.mp.same (W:=wr.drew) rfl).look (h:=(j:Int)) (k:=2 * q) ⟨⟨by omega,by omega⟩,by omega⟩ false
   rw [fj_left (clk k) L s j q hq',hlf] at hlook
   unfold kv nv at hlook
   rw [show ((2 * q:Nat):Int)=(a:Int) - 1 by omega] at hlook
   simp only [Option.getD_some,Bool.false_eq_true,if_false] at hlook
   obtain ⟨d',hd'⟩ : ∃ d',dg (clk k) (nodeT lf d)=d':=⟨_,rfl⟩
   have zl:lf.size=clk k:=by rw [← hlf]; exact nd_size hkk _ _ _
   have zd:d.size=clk k:=by rw [HDj.out]; exact nd_size hkk _ _ _
   have HNd:Hid (∀ W,Tb W→Calls Tryz.prog 227 #[.int .i64 k,.string lf,.string d] W fun e w'=>e = .returned (.string d')∧Below W.heap.size W w'):=fun W hT=>node_any W hT k lf d (by omega) (by omega) d' hd'
   have HD2:Hid (d'=nd (clk k) (L++[s]) (j+1) ((L.length+1) / 2^(j+1) - 1)):=by
    show d'=_
    rw [e1,nd,hlf,← hd',HDj.out,e2]
   have hTw:=(HTb.out wr HA.out.ch)
   have HTd:Hid (Tb wr.drew):=⟨hTw.rs⟩
   have hfl:=field_N wr.drew lf
   have HW:Hid (∀ W,Below wr.drew.heap.size wr.drew W→W.cell? ⟨w.heap.size,0,none⟩=some (.int .i64 (j:Int))∧W.cell? ⟨w.heap.size,1,none⟩=some (.int .u64 (a:Int))∧W.frozen? ⟨w.heap.size,0,none⟩=false∧W.frozen? ⟨w.heap.size,1,none⟩=false ∧
     W.heap[w.heap.size]? = some (.cells #[.int .i64 (j:Int),.int .u64 (a:Int)] 249 (0,0))∧W.heap[m+1]? = some (.cells #[.int .i64 k,.int .u64 ((L.length+1:Nat):Int),.map (some m)] 172 (0,0))∧Mp W m (fj (clk k) L s j)∧Chf m w W ∧ ∀ v l,OwnS wr (w.heap.size+1) v l→OwnS W (w.heap.size+1) v l):=fun W hbW=>by
    have hlw:=(hbW.block w.heap.size (Array.getElem?_eq_some_iff.1 hl).1).trans hl
    have hm1:m+1<wr.heap.size:=(Array.getElem?_eq_some_iff.1 hb).1
    refine ⟨?_,?_,frozen_of_row W _ 0 _ _ hlw,frozen_of_row W _ 1 _ _ hlw,hlw,(hbW.block (m+1) hm1).trans hb,HA.out.mp.same (hbW.block m (by show m<wr.heap.size; omega)),HA.out.ch.trans (Chf.of (w:=wr) ⟨hbW.os,hbW.tape,hbW.output,hbW.size,hbW.block⟩ (by omega)),fun v l ho=>own_next (w:=wr) ho ⟨hbW.os,hbW.tape,hbW.output,hbW.size,hbW.block⟩ (Nat.le_refl _)⟩
    ·rw [cell_of_row W _ 0 _ _ (0,0) hlw]; rfl
    ·rw [cell_of_row W _ 1 _ _ (0,0) hlw]; rfl
   clear hb hl zl zd hd' HDj hTw
   go_upto_region 12 with (fail)
   go_region
   go_upto_region 15 with (go_at_call 227; with_reducible refine (HNd.out _ HTd.out).mono ?_; rintro e w4 ⟨rfl,hb4⟩; obtain ⟨p0,p1,p2,p3,P⟩:=HW.out _ hb4)
   obtain ⟨hl4,hb5,hm4,hc4,ho4⟩:=P
   have es1:=heap_setCell_same w4 w.heap.size 0 _ 249 (.int .i64 ((j:Int)+1)) hl4
   have es2:=heap_setCell_same _ w.heap.size 1 _ 249 (.int .u64 ((a:Int) / 2)) es1
   have hm1:m+1<w.heap.size:=HK.out.lt
   have hnb : ∀ b,b≠w.heap.size→((w4.setCell ⟨w.heap.size,0,none⟩ (.int .i64 ((j:Int)+1))).setCell ⟨w.heap.size,1,none⟩ (.int .u64 ((a:Int) / 2))).heap[b]? = w4.heap[b]? := fun b hb =>
    (Below.heap_setCell _ ⟨w.heap.size,1,none⟩ _ b hb).trans (Below.heap_setCell _ ⟨w.heap.size,0,none⟩ _ b hb)
   have hc5:Chf m w ((w4.setCell ⟨w.heap.size,0,none⟩ (.int .i64 ((j:Int)+1))).setCell ⟨w.heap.size,1,none⟩ (.int .u64 ((a:Int) / 2))) :=
    (hc4.set 0 _ (.inr (Nat.le_refl _)) (by omega)).set 1 _ (.inr (Nat.le_refl _)) (by omega)
   have hb6:=(hnb (m+1) (by omega)).trans hb5
   have hm5:=hm4.same (hnb m (by omega))
   have ho5 : ∀ v l,OwnS wr (w.heap.size+1) v l→OwnS ((w4.setCell ⟨w.heap.size,0,none⟩ (.int .i64 ((j:Int)+1))).setCell ⟨w.heap.size,1,none⟩ (.int .u64 ((a:Int) / 2))) (w.heap.size+1) v l:=fun v l ho=>by
    obtain ⟨g1,g2⟩:=ho4 v l ho
    refine ⟨g1,?_⟩
    rcases g2 with g2 | ⟨g,cap,cur,rfl,hg,hh,r⟩
    ·exact .inl g2
    ·exact .inr ⟨g,cap,cur,rfl,hg,(hnb g (by omega)).trans hh,r⟩
   obtain ⟨w5,hw5⟩ : ∃ w5,(w4.setCell ⟨w.heap.size,0,none⟩ (.int .i64 ((j:Int)+1))).setCell ⟨w.heap.size,1,none⟩ (.int .u64 ((a:Int) / 2))=w5:=⟨_,rfl⟩
   rw [hw5] at es2 hc5 hb6 hm5
   rw [hw5]
   have hl5:w5.heap[w.heap.size]? = some (.cells #[.int .i64 ((j:Int)+1),.int .u64 ((a:Int) / 2)] 249 (0,0)):=es2
   have ho6 : ∀ v l,OwnS wr (w.heap.size+1) v l→OwnS w5 (w.heap.size+1) v l:=fun v l ho=>by rw [← hw5]; exact ho5 v l ho
   obtain ⟨es,cl,hup,hm6⟩:=(hm5.same (W:=w5.drew) rfl).write (h:=((j+1:Nat):Int)) (k:=q) ⟨⟨by omega,by omega⟩,by omega⟩ d'
   rw [show d'=nd (clk k) (L++[s]) (j+1) q by rw [HD2.out,e1],fj_step (clk k) L s j q hq'] at hm6
   have hz5:w.heap.size<w5.heap.size:=(Array.getElem?_eq_some_iff.1 hl5).1
   have hc6:Chf m w (ChangeMaps.setBlock w5.drew m (.map es cl)):=(Chf.next hc5 (Below.refl _ _).drew (by omega)).put _
   have hb7:(ChangeMaps.setBlock w5.drew m (.map es cl)).heap[m+1]? = _:=(set_other _ (by omega)).trans hb6
   have hl6:(ChangeMaps.setBlock w5.drew m (.map es cl)).heap[w.heap.size]? = _:=(set_other _ (by omega)).trans hl5
   have ho7:OwnS (ChangeMaps.setBlock w5.drew m (.map es cl)) (w.heap.size+1) u8 (nw (clk k) (L++[s]) j):=by
    obtain ⟨g1,g2⟩:=ho6 _ _ HA.out.own
    refine ⟨g1,?_⟩
    rcases g2 with g2 | ⟨g,cap,cur,e,hg,hh,r⟩
    ·exact .inl g2
    ·exact .inr ⟨g,cap,cur,e,hg,(set_other _ (by omega)).trans hh,r⟩
   obtain ⟨w6,hw6⟩ : ∃ w6,ChangeMaps.setBlock w5.drew m (.map es cl)=w6:=⟨_,rfl⟩
   rw [hw6] at hup hm6 hc6 hb7 hl6 ho7
   have x2:w5.cell? ⟨m+1,2,none⟩=some (.map (some m)):=by rw [cell_of_row w5 (m+1) 2 _ _ (0,0) hb6]; rfl
   have y0:w5.cell? ⟨w.heap.size,0,none⟩=some (.int .i64 ((j:Int)+1)):=by rw [cell_of_row w5 _ 0 _ _ (0,0) hl5]; rfl
   have y1:w5.cell? ⟨w.heap.size,1,none⟩=some (.int .u64 ((a:Int) / 2)):=by rw [cell_of_row w5 _ 1 _ _ (0,0) hl5]; rfl
   unfold kv nv at hup
   have ea:(a:Int) / 2=(q:Int):=by omega
   rw [← ea,show ((j+1:Nat):Int)=(j:Int)+1 by omega] at hup
   have HY:Hid (d'.size≤9223372036854775807):=by show d'.size≤_; rw [HD2.out,nd_size hkk]; omega
   have HO:=hide ho7
   have HZ6:Hid (w.heap.size<w6.heap.size):=(Array.getElem?_eq_some_iff.1 hl6).1
   have HLn:Hid ((nw (clk k) (L++[s]) j).length≤17):=by show _≤_; rw [nw_len]; omega
   have HG:Hid (Mp w6 m (fj (clk k) L s (j+1))∧Chf m w w6∧w6.heap[m+1]? = some (.cells #[.int .i64 k,.int .u64 ((L.length+1:Nat):Int),.map (some m)] 172 (0,0))∧w6.heap[w.heap.size]? = some (.cells #[.int .i64 ((j+1:Nat):Int),.int .u64 (((L.length+1) / 2^(j+1) - 1:Nat):Int)] 249 (0,0))∧m+1<w.heap.size) :=
    ⟨hm6,hc6,hb7,by rw [hl6,e1,← ea]; rfl,hm1⟩
   clear hw6 hw5 es1 es2 hb4 hl4 hb5 hm4 hc4 ho4 hnb hc5 hb6 hm5 ho5 hl5 ho6 hm6 hz5 hc6 hb7 hl6 ho7 hlook hfl HW HNd HTd z0 z2 l0 l1 p0 p1 p2 p3 ea hq' e1 e2 hab
   go_region
   go_wp2_with (at_builtin; refine wpList_append_S _ rfl _ _ rfl (w.heap.size+1) _ _ rfl (own_al HO.out _) (some ⟨w6.heap.size,0,none⟩) w6.heap.size 0 1 [d'] rfl (rds_one w6 d' HY.out) (fun h=>by cases h) ?c1 ?c2 ?_)
   case c1=>have:=HLn.out; simp; omega
   case c2=>have:=HZ6.out; simp; omega
   intro v2 w7 h7 hb7
   have HA2:Hid (Ap w w7 m k L s (j+1) v2):=by
    obtain ⟨g1,g2,g3,g4,g5⟩:=HG.out
    have hz6:=HZ6.out
    have hbb:Below (w.heap.size+1) w6 w7:=((Below.refl _ _).alloc (by omega) _).trans hb7
    have hcc:Chf m w w7:=⟨g2.below.trans (hbb.mono (by omega)),fun b hb x y=>(hbb.block b (by omega)).trans (g2.block b hb x y)⟩
    refine ⟨(hbb.block _ (by omega)).trans g3,(hbb.block _ (by omega)).trans g4,g1.same (hbb.block m (by omega)),?_,hcc⟩
    rw [nw_succ,List.length_append,List.length_singleton,← HD2.out]
    exact h7
   clear h7 hb7
   go_wp2
   go_roundg (t - (j+1))
   case rel =>
    go_light
    exact ⟨j+1,d',by omega,rfl,rfl,HD2,by go_num,HA2⟩
   case measure=>go_light; omega
  ·obtain rfl:j=t:=by omega
   have hz : ¬ ((j:Int)<(j:Int)):=by omega
   go_wp2
   go_ret2
   have hm2:=HA.out.mp
   rw [fj_end (clk k) L s j hL HHT.out] at hm2
   refine ⟨_,rfl,⟨?_,hm2,HK.out.k1,HK.out.k2,by simp; omega⟩,own_mono HA.out.own (by omega),HA.out.ch⟩
   rw [HA.out.blk]
   simp
end Go.Proofs.YtoblgjledefdbaaGreatDoor
