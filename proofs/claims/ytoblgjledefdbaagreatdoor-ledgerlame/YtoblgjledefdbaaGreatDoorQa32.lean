/- Own work. -/
import Derived.Deep.RegionHeld3
import Derived.Test.YtoblgjledefdbaaGreatDoorQa29
import Derived.Test.YtoblgjledefdbaaGreatDoorQa31
namespace Go.Proofs.YtoblgjledefdbaaGreatDoor
open Go.RowKit
attribute [local go_sem ↓] Go.wp_at_zero Go.wp_at_succ
def NxQ (w:World) (k:Nat) (L:List ByteArray) (x:ByteArray) (e:Ending) (w':World):Prop :=
 ∃ vm r' vr',e = .returned (.agg #[.string x,.string (sm x),vm,.pointer (some ⟨r',0,none⟩)])∧OwnS w' w.heap.size vm (mdL k L x)∧Kp.Rg w' r' vr' (k:Int) (L.length+1) (pkL k (L++[x]))∧w.heap.size≤r'∧(∀ g,vr'.ownBlock=some g→w.heap.size≤g)∧Below w.heap.size w w'
theorem dg_cut (k:Nat) (hk:k≤32) (t:ByteArray):(dg 32 t).extract 0 k=dg k t:=by
 unfold dg
 rw [ByteArray.extract_extract,Nat.zero_add,Nat.zero_add,Nat.min_eq_left hk]
theorem sm_cut (k:Nat) (hk:k≤32) (L:List ByteArray) (x:ByteArray):(sm x).extract 0 k=nd k (L++[x]) 0 L.length:=by
 unfold sm
 rw [dg_cut k hk,nd,List.getD_eq_getElem?_getD,List.getElem?_concat_length]; rfl
theorem fe_pk {k n:Nat} {P:List ByteArray} {w:World} {r:Nat} {v:Value} (h:Kp.Rg w r v (k:Int) n P) (hk:clk (k:Int)=k):Kp.fe (k:Int) n P=0:=by
 have h1:=h.k1
 have h2:=h.k2
 have hn:=h.hn
 unfold Kp.fe
 rw [if_neg (by omega),if_neg (by omega),if_neg]
 rw [h.hl,hts_ones hn]
 refine fun q=>q.elim (fun q=>q rfl) (fun q=>q fun s hs => ?_)
 have:=h.hs s hs
 omega
theorem rg_set {w:World} {r p i:Nat} {v x:Value} {k:Int} {n:Nat} {P:List ByteArray} (h:Kp.Rg w r v k n P) (h1:r≠p) (h2 : ∀ g,v.ownBlock=some g→g≠p):Kp.Rg (w.setCell ⟨p,i,none⟩ x) r v k n P :=
 ⟨(Below.heap_setCell _ _ _ _ h1).trans h.blk,St.row_keep h.own (fun g hg=>Below.heap_setCell _ _ _ _ (h2 g hg)),h.k1,h.k2,h.hn,h.hl,h.hs⟩
theorem four_put {w:World} {b:Nat} {x0 x1 x2 x3:Value} {T:TypeId} (h:w.heap[b]? = some (.cells #[x0,x1,x2,x3] T (0,0))) (y0 y1 y2 y3:Value):((((w.setCell ⟨b,0,none⟩ y0).setCell ⟨b,1,none⟩ y1).setCell ⟨b,2,none⟩ y2).setCell ⟨b,3,none⟩ y3).heap[b]? = some (.cells #[y0,y1,y2,y3] T (0,0)) :=
 heap_setCell_same _ b 3 _ _ y3 (heap_setCell_same _ b 2 _ _ y2 (heap_setCell_same _ b 1 _ _ y1 (heap_setCell_same w b 0 _ _ y0 h)))
theorem own_slice3 {w:World} {B:Nat} {v:Value} {l:List ByteArray} (h:OwnS w B v l) : ∃ ao n cap,v = .slice ao n cap:=by
 obtain ⟨_,h2⟩:=h
 rcases h2 with ⟨rfl,_⟩ | ⟨g,cap,cur,rfl,_⟩
 ·exact ⟨_,_,_,rfl⟩
 ·exact ⟨_,_,_,rfl⟩
set_option maxRecDepth 100000 in
set_option maxHeartbeats 4000000 in
theorem next_any (w:World) (ht:Tb w) (a m r:Nat) (vr:Value) (k:Nat) (L:List ByteArray) (hF:Frs w m (k:Int) L) (hR:Kp.Rg w r vr (k:Int) L.length (pkL k L)) (hc:clk (k:Int)=k)
  (c3:w.cell? ⟨a,3,none⟩=some (.pointer (some ⟨m+1,0,none⟩))) (c4:w.cell? ⟨a,4,none⟩=some (.pointer (some ⟨r,0,none⟩))) (x:ByteArray) (hx:x.size≤1048576) (hL:L.length<65536) :
  Calls Tryz.prog 95 #[.pointer (some ⟨a,0,none⟩),.string x] w (NxQ w k L x):=by
 have k1:(1:Int)≤(k:Int):=hF.k1
 have k2:(k:Int)≤32:=hF.k2
 have hax:=World.block_lt_of_cell? _ _ c3
 obtain ⟨s,hs⟩ : ∃ s,sm x=s:=⟨_,rfl⟩
 have hss:s.size=32:=by rw [← hs]; exact sm_size x
 obtain ⟨P,hP⟩ : ∃ P,pkL k L=P:=⟨_,rfl⟩
 rw [hP] at hR
 obtain ⟨w1,hw1⟩ : ∃ W,w.alloc (.cells #[.string ⟨#[]⟩,.string ⟨#[]⟩,.slice none 0 0,.pointer none] 175)=W:=⟨_,rfl⟩
 have u1:Below w.heap.size w w1:=by rw [← hw1]; exact bal (Below.refl _ _) _
 have k4:w1.heap[w.heap.size]? = some (.cells #[.string ⟨#[]⟩,.string ⟨#[]⟩,.slice none 0 0,.pointer none] 175 (0,0)):=by rw [← hw1]; exact heap_alloc_new w _
 have ht:=ht.next u1
 have hF:=hF.next u1 (Nat.le_refl _)
 have hR:=hR.next u1 (Nat.le_refl _)
 have c3:=(u1.cell (p:=⟨a,3,none⟩) hax).trans c3
 have c4:=(u1.cell (p:=⟨a,4,none⟩) hax).trans c4
 have hax:a<w1.heap.size:=Nat.lt_of_lt_of_le hax u1.size
 have hz1:w.heap.size<w1.heap.size:=(Array.getElem?_eq_some_iff.1 k4).1
 have HF:Hid (∀ W,Below w1.heap.size w1 W→W.cell? ⟨a,3,none⟩=some (.pointer (some ⟨m+1,0,none⟩))∧W.cell? ⟨a,4,none⟩=some (.pointer (some ⟨r,0,none⟩))):=fun W hW=>⟨(hW.cell (p:=⟨a,3,none⟩) hax).trans c3,(hW.cell (p:=⟨a,4,none⟩) hax).trans c4⟩
 have HS:Hid (∀ W,Below w1.heap.size w1 W→Calls Tryz.prog 85 #[.string x] W fun e w'=>e = .returned (.string s)∧Below w1.heap.size w1 w'):=fun W hW=>(sumof_any W (ht.next hW) x hx s hs).mono fun e w' z=>⟨z.1,bnext hW z.2⟩
 have HK:Hid (∀ W,Below w1.heap.size w1 W→Calls Tryz.prog 134 #[.pointer (some ⟨m+1,0,none⟩)] W fun e w'=>e = .returned (.int .i64 (k:Int))∧W=w'):=fun W hW=>(fstrength_any W m k L (hF.next hW (Nat.le_refl _))).mono fun e w' z=>⟨z.1,z.2.symm⟩
 have HZ:Hid (∀ W,Below w1.heap.size w1 W→Calls Tryz.prog 159 #[.pointer (some ⟨r,0,none⟩)] W fun e w'=>e = .returned (.int .u64 (L.length:Int))∧Below w1.heap.size w1 w'∧Below W.heap.size W w'):=fun W hW=>(Kp.size_any W r vr k L.length P (hR.next hW (Nat.le_refl _))).mono fun e w' z=>⟨z.1,bnext hW z.2,z.2⟩
 have HP:Hid (∀ W,Below w1.heap.size w1 W→Calls Tryz.prog 160 #[.pointer (some ⟨r,0,none⟩)] W fun e w' => ∃ u,e = .returned u∧OwnS w' w1.heap.size u P∧Below w1.heap.size w1 w'):=fun W hW=>(Kp.rpeaks_own W r vr k L.length P (hR.next hW (Nat.le_refl _))).mono fun e w' z=>by
  obtain ⟨u,z1,z2,z3⟩:=z
  exact ⟨u,z1,own_mono z2 hW.size,bnext hW z3⟩
 have HM:Hid (∀ W u,Below w1.heap.size w1 W→OwnS W w1.heap.size u P→Calls Tryz.prog 94 #[.int .i64 (k:Int),.int .u64 (L.length:Int),u] W fun e w' => ∃ p v,e = .returned (.tuple #[.pointer (some ⟨p,0,none⟩),.int .i64 0])∧Kp.Rg w' p v (k:Int) L.length P∧w1.heap.size≤p∧(∀ g,v.ownBlock=some g→w1.heap.size≤g)∧Below w1.heap.size w1 w'):=fun W u hW ho=>by
  obtain ⟨ao,b,cap,rfl,hr,_,hno⟩:=owns_rds ho (fun y hy=>by have:=hR.small y hy; omega)
  have hsh:=hR.short
  refine (Kp.from_any W k L.length (by omega) ao b 0 cap P hr hno (by omega) 0 (fe_pk hR hc)).mono fun e w' z => ?_
  obtain ⟨p,v,z1,z2,z3,z4,z5⟩:=z.ok
  exact ⟨p,v,z1,z2,Nat.le_trans hW.size z3,fun g hg=>Nat.le_trans hW.size (z4 g hg),bnext hW z5⟩
 have HA:Hid (∀ W p v,Below w1.heap.size w1 W→w1.heap.size≤p→(∀ g,v.ownBlock=some g→w1.heap.size≤g)→Kp.Rg W p v (k:Int) L.length P→Calls Tryz.prog 161 #[.pointer (some ⟨p,0,none⟩),.string (s.extract 0 k)] W fun e w' => ∃ vm vr',e = .returned (.tuple #[vm,.int .i64 0])∧OwnS w' w1.heap.size vm (mdL k L x)∧Kp.Rg w' p vr' (k:Int) (L.length+1) (pkL k (L++[x]))∧(∀ g,vr'.ownBlock=some g→w1.heap.size≤g)∧Below w1.heap.size w1 w'):=fun W p v hW hp hv hr=>by
  have hd:=Kp.did_list k1 k2 (L++[x]) 0 L.length L.length (by rw [Nat.pow_zero,Nat.one_mul]) (by decide) (by rw [Nat.pow_zero]; omega)
  rw [hc,pkL_snoc,hP,show L.length+2^0=L.length+1 from rfl,show ((0:Nat):Int)=0 from rfl,← sm_cut k (by omega) L x,hs] at hd
  have hd2:Hid (er (k:Int) L.length 0 (s.extract 0 k)=0∧nxN (k:Int) L.length 0 (s.extract 0 k)=L.length+1∧nxP (k:Int) L.length P 0 (s.extract 0 k)=pkL k (L++[x])∧an (k:Int) L.length P 0 (s.extract 0 k)=mdL k L x):=by
   obtain ⟨d1,d2,d3,d4⟩:=hd.out
   refine ⟨d1,d2,?_,?_⟩
   ·rw [d3]; unfold pkL; rw [List.length_append]; rfl
   ·rw [d4]; unfold mdL
    rw [show 40 - 0=40 from rfl]
    refine List.map_congr_left fun j _ => ?_
    rw [Nat.zero_add]
  refine (Kp.add_any W (ht.next hW) p v k L.length P hr (s.extract 0 k) 0 _ _ _ hd2).mono fun e w' z => ?_
  obtain ⟨vm,v',z1,z2⟩:=z
  refine ⟨vm,v',z1,own_mono z2.own hW.size,z2.rg,fun g hg => ?_,hW.trans (z2.ch.below.mono hp)⟩
  rcases z2.new with e | e
  ·rw [e] at hg; exact hv g hg
  ·exact Nat.le_trans hW.size (e g hg)
 have hk0:(0:Int)≤(k:Int):=by omega
 have hks:(k:Int)≤(s.size:Int):=by omega
 have HE:Hid (∀ W va vn vc r' vr',Below w1.heap.size w1 W→OwnS W w1.heap.size (.slice va vn vc) (mdL k L x)→Kp.Rg W r' vr' (k:Int) (L.length+1) (pkL k (L++[x]))→w1.heap.size≤r'→(∀ g,vr'.ownBlock=some g→w1.heap.size≤g) →
   NxQ w k L x (.returned (.agg #[.string x,.string s,.slice va vn vc,.pointer (some ⟨r',0,none⟩)])) ((((W.setCell ⟨w.heap.size,0,none⟩ (.string x)).setCell ⟨w.heap.size,1,none⟩ (.string s)).setCell ⟨w.heap.size,2,none⟩ (.slice va vn vc)).setCell ⟨w.heap.size,3,none⟩ (.pointer (some ⟨r',0,none⟩)))):=fun W va vn vc r' vr' g1 g2 g3 g4 g5=>by
  rw [← hs]
  have h1:r'≠w.heap.size:=by omega
  have h2 : ∀ g,vr'.ownBlock=some g→g≠w.heap.size:=fun g hg=>by have:=g5 g hg; omega
  have hb:Below w.heap.size w W:=u1.trans (g1.mono u1.size)
  exact ⟨_,r',vr',rfl,own_mono (Kp.own_setp (Kp.own_setp (Kp.own_setp (Kp.own_setp g2 hz1) hz1) hz1) hz1) u1.size,rg_set (rg_set (rg_set (rg_set g3 h1 h2) h1 h2) h1 h2) h1 h2,Nat.le_trans u1.size g4,fun g hg=>Nat.le_trans u1.size (g5 g hg),
   (((hb.setCell (p:=⟨w.heap.size,0,none⟩) (Nat.le_refl _) _).setCell (p:=⟨w.heap.size,1,none⟩) (Nat.le_refl _) _).setCell (p:=⟨w.heap.size,2,none⟩) (Nat.le_refl _) _).setCell (p:=⟨w.heap.size,3,none⟩) (Nat.le_refl _) _⟩
 have HK4:Hid (∀ W,Below w1.heap.size w1 W→W.heap[w.heap.size]? = some (.cells #[.string ⟨#[]⟩,.string ⟨#[]⟩,.slice none 0 0,.pointer none] 175 (0,0))):=fun W hW=>(hW.block _ hz1).trans k4
 have u:Below w1.heap.size w1 w1.drew:=(Below.refl _ _).drew
 clear ht hF hR hP hx hs k4 u1 hL k1 k2 hss hc
 go_enter Tryz.func95,Tryz.ntmps95
 go_upto_region 1 with (fail)
 go_region_held3 (fun Z=>Z.cell? ⟨a,3,none⟩=some (.pointer (some ⟨m+1,0,none⟩))) (first | assumption | (with_reducible exact (HF.out _ u).1)) (first
  | (go_at_call 85; (with_reducible refine (HS.out _ u).mono ?_); rintro e w2 ⟨rfl,u⟩)
  | (go_at_call 134; (with_reducible refine (HK.out _ u).mono ?_); rintro e w3 ⟨rfl,rfl⟩))
 all_goals
  obtain ⟨d3,d4⟩:=HF.out _ u
  replace u:Below w1.heap.size w1 w2.drew:=u.drew
  go_upto_region 2 with (fail)
  go_region_held3 (fun Z=>Z.cell? ⟨a,4,none⟩=some (.pointer (some ⟨r,0,none⟩))) (first | assumption | (with_reducible exact (HF.out _ u).2)) (first
   | (go_at_call 159; (with_reducible refine (HZ.out _ u).mono ?_); rintro e w4 ⟨rfl,u,-⟩)
   | (go_at_call 160; (with_reducible refine (HP.out _ u).mono ?_); rintro e w5 ⟨vp,rfl,op,u⟩)
   | (go_at_call 94; (with_reducible refine (HM.out _ _ u op).mono ?_); rintro e w6 ⟨p,v,rfl,hr,hp,hv,u⟩))
 all_goals
  go_upto_region 4 with (go_at_call 161; (with_reducible refine (HA.out _ _ _ u hp hv hr).mono ?_); rintro e w7 ⟨vm,vr',rfl,om,hr7,hv7,u⟩)
  obtain ⟨va,vn,vc,rfl⟩:=own_slice3 om
  have k7:=HK4.out _ u
  have e0:w7.cell? ⟨w.heap.size,0,none⟩=some (.string ⟨#[]⟩):=by rw [cell_of_row w7 _ 0 _ _ (0,0) k7]; rfl
  have e1:w7.cell? ⟨w.heap.size,1,none⟩=some (.string ⟨#[]⟩):=by rw [cell_of_row w7 _ 1 _ _ (0,0) k7]; rfl
  have e2:w7.cell? ⟨w.heap.size,2,none⟩=some (.slice none 0 0):=by rw [cell_of_row w7 _ 2 _ _ (0,0) k7]; rfl
  have e3:w7.cell? ⟨w.heap.size,3,none⟩=some (.pointer none):=by rw [cell_of_row w7 _ 3 _ _ (0,0) k7]; rfl
  have z0:=frozen_of_row w7 _ 0 _ _ k7
  have z1:=frozen_of_row w7 _ 1 _ _ k7
  have z2:=frozen_of_row w7 _ 2 _ _ k7
  have z3:=frozen_of_row w7 _ 3 _ _ k7
  go_wp2
  have HN:=HE.out w7 va vn vc p vr' u om hr7 hp hv7
  have q:=four_put k7 (.string x) (.string s) (.slice va vn vc) (.pointer (some ⟨p,0,none⟩))
  have q0:=cell_of_row _ w.heap.size 0 _ _ (0,0) q
  have q1:=cell_of_row _ w.heap.size 1 _ _ (0,0) q
  have q2:=cell_of_row _ w.heap.size 2 _ _ (0,0) q
  have q3:=cell_of_row _ w.heap.size 3 _ _ (0,0) q
  simp at q0 q1 q2 q3
  generalize (((w7.setCell ⟨w.heap.size,0,none⟩ (.string x)).setCell ⟨w.heap.size,1,none⟩ (.string s)).setCell ⟨w.heap.size,2,none⟩ (.slice va vn vc)).setCell ⟨w.heap.size,3,none⟩ (.pointer (some ⟨p,0,none⟩))=W9 at *
  exact bodyPost_ret (v := .agg #[.string x,.string s,.slice va vn vc,.pointer (some ⟨p,0,none⟩)]) (by simp [results,Tryz.results95,go_sem,q0,q1,q2,q3]) rfl HN
end Go.Proofs.YtoblgjledefdbaaGreatDoor
namespace Go.Proofs.YtoblgjledefdbaaGreatDoor
open Go.RowKit
def Lef (a m r:Nat) (vr vs:Value) (x:Nat):Prop:=x=a∨x=m∨x=m+1∨x=r∨vr.ownBlock=some x∨vs.ownBlock=some x
structure Led (w:World) (g:Int) (a q p m r:Nat) (vr vs:Value) (T:Nat→Prop) (D:St.DV) (S:St.SV) (L:List ByteArray):Prop where
 blk:w.heap[a]? = some (rwL g (.int .u32 0) (some ⟨q,0,none⟩) (.pointer (some ⟨m+1,0,none⟩)) (.pointer (some ⟨r,0,none⟩)) vs)
 sk:St.Sk w q p T D S
 fr:Frs w m (S.k:Int) L
 rg:Kp.Rg w r vr (S.k:Int) L.length (pkL S.k L)
 own:OwnS w 0 vs (smL L)
 sz : ∀ s∈L,s.size≤1048576
 ap : ∀ x,T x → ¬ Lef a m r vr vs x
 av : ∀ x,vr.ownBlock=some x→vs.ownBlock≠some x
section
variable {w W:World} {g:Int} {a q p m r:Nat} {vr vs:Value} {T:Nat→Prop} {D D':St.DV} {S S':St.SV} {L:List ByteArray}
theorem own_lt {B:Nat} {v:Value} {l:List ByteArray} (h:OwnS w B v l) {x:Nat} (hx:v.ownBlock=some x):x<w.heap.size:=(World.ownsRow.lt h x hx).2
theorem row_blk {B T s n:Nat} {v:Value} {xs:List Value} (h:w.ownsRow B T s v n xs) {x:Nat} (hx:v.ownBlock=some x) : ∃ cur,w.heap[x]? = some (.cells cur T (0,0)):=by
 obtain ⟨_,h2⟩:=h
 rcases h2 with ⟨rfl,_⟩ | ⟨g,cap,cur,rfl,_,hh,_⟩
 ·cases hx
 ·cases hx
  exact ⟨cur,hh⟩
theorem Led.k1 (h:Led w g a q p m r vr vs T D S L):1≤S.k∧S.k≤32:=⟨h.sk.small.1,h.sk.small.2.1⟩
theorem Led.clk (h:Led w g a q p m r vr vs T D S L):clk (S.k:Int)=S.k:=by
 have:=clk_of h.fr.k1 h.fr.k2
 omega
theorem Led.lt (h:Led w g a q p m r vr vs T D S L) {x:Nat} (hx:Lef a m r vr vs x):x<w.heap.size:=by
 rcases hx with rfl | rfl | rfl | rfl | e | e
 ·exact (Array.getElem?_eq_some_iff.1 h.blk).1
 ·have:=h.fr.lt; omega
 ·exact h.fr.lt
 ·exact h.rg.lt
 ·exact own_lt h.rg.own e
 ·exact own_lt h.own e
theorem Led.same (h:Led w g a q p m r vr vs T D S L) (h1 : ∀ x,T x→W.heap[x]? = w.heap[x]?) (h2 : ∀ x,Lef a m r vr vs x→W.heap[x]? = w.heap[x]?):Led W g a q p m r vr vs T D S L :=
 ⟨(h2 a (.inl rfl)).trans h.blk,h.sk.same h1,h.fr.same (h2 m (.inr (.inl rfl))) (h2 _ (.inr (.inr (.inl rfl)))),
  ⟨(h2 r (.inr (.inr (.inr (.inl rfl))))).trans h.rg.blk,St.row_keep h.rg.own fun x hx=>h2 x (.inr (.inr (.inr (.inr (.inl hx))))),h.rg.k1,h.rg.k2,h.rg.hn,h.rg.hl,h.rg.hs⟩,
  St.row_keep h.own fun x hx=>h2 x (.inr (.inr (.inr (.inr (.inr hx))))),h.sz,h.ap,h.av⟩
theorem Led.next (h:Led w g a q p m r vr vs T D S L) (hb:Below w.heap.size w W):Led W g a q p m r vr vs T D S L :=
 h.same (fun x hx=>hb.block x (h.sk.lt hx)) (fun x hx=>hb.block x (h.lt hx))
theorem Led.nr (h:Led w g a q p m r vr vs T D S L):a≠m∧a≠m+1∧a≠r∧(∀ x,vr.ownBlock=some x→x≠a) ∧ ∀ x,vs.ownBlock=some x→x≠a:=by
 have hb:=h.blk
 refine ⟨?_,?_,?_,?_,?_⟩
 ·rintro rfl
  obtain ⟨es,c,hx,_⟩:=h.fr.mp
  rw [hb] at hx; cases hx
 ·rintro rfl
  have:=h.fr.blk
  rw [hb] at this; cases this
 ·rintro rfl
  have:=h.rg.blk
  rw [hb] at this; cases this
 ·rintro x hx rfl
  obtain ⟨cur,hc⟩:=row_blk h.rg.own hx
  rw [hb] at hc; cases hc
 ·rintro x hx rfl
  obtain ⟨cur,hc⟩:=row_blk h.own hx
  rw [hb] at hc; cases hc
theorem Led.lock {g':Int} (h:Led w g a q p m r vr vs T D S L) (ho : ∀ b,b<w.heap.size→b≠a→W.heap[b]? = w.heap[b]?) (hr:W.heap[a]? = some (rwL g' (.int .u32 0) (some ⟨q,0,none⟩) (.pointer (some ⟨m+1,0,none⟩)) (.pointer (some ⟨r,0,none⟩)) vs)):Led W g' a q p m r vr vs T D S L:=by
 obtain ⟨n1,n2,n3,n4,n5⟩:=h.nr
 have hk : ∀ x,Lef a m r vr vs x→x≠a→W.heap[x]? = w.heap[x]? := fun x hx hne=>ho x (h.lt hx) hne
 exact ⟨hr,h.sk.same fun x hx=>ho x (h.sk.lt hx) (fun e=>h.ap x hx (.inl e)),h.fr.same (hk m (.inr (.inl rfl)) n1.symm) (hk _ (.inr (.inr (.inl rfl))) n2.symm),
  ⟨(hk r (.inr (.inr (.inr (.inl rfl)))) n3.symm).trans h.rg.blk,St.row_keep h.rg.own fun x hx=>hk x (.inr (.inr (.inr (.inr (.inl hx))))) (n4 x hx),h.rg.k1,h.rg.k2,h.rg.hn,h.rg.hl,h.rg.hs⟩,
  St.row_keep h.own fun x hx=>hk x (.inr (.inr (.inr (.inr (.inr hx))))) (n5 x hx),h.sz,h.ap,h.av⟩
theorem Led.lkd (h:Led w 0 a q p m r vr vs T D S L) (hL:Lkd a w W):Led W 1 a q p m r vr vs T D S L:=h.lock hL.oth (hL.self _ _ _ _ _ h.blk)
theorem Led.set (h:Led w g a q p m r vr vs T D S L) (g':Int):Led (w.setCell ⟨a,0,none⟩ (.int .i32 g')) g' a q p m r vr vs T D S L :=
 h.lock (fun _ _ hne=>Below.heap_setCell _ _ _ _ hne) (heap_setCell_same w a 0 _ _ (.int .i32 g') h.blk)
theorem Led.cells (h:Led w g a q p m r vr vs T D S L):w.cell? ⟨a,0,none⟩=some (.int .i32 g)∧w.cell? ⟨a,2,none⟩=some (.pointer (some ⟨q,0,none⟩))∧w.cell? ⟨a,3,none⟩=some (.pointer (some ⟨m+1,0,none⟩))∧w.cell? ⟨a,4,none⟩=some (.pointer (some ⟨r,0,none⟩))∧w.cell? ⟨a,5,none⟩=some vs ∧ ∀ j,w.frozen? ⟨a,j,none⟩=false:=rwL_at h.blk
end
end Go.Proofs.YtoblgjledefdbaaGreatDoor
namespace Go.Proofs.YtoblgjledefdbaaGreatDoor
open Go.RowKit
attribute [local go_sem ↓] Go.wp_at_zero Go.wp_at_succ
def stE (D:St.DV) (S:St.SV):Nat→List ByteArray→Int
 | _,[]=>0
 | p,d::ds=>if (St.nodD D S p).2≠0 then (St.nodD D S p).2 else if St.tx (St.nodD D S p).1=d then stE D S (p+1) ds else 190
theorem stE_at {D:St.DV} {S:St.SV} {p j:Nat} {ds:List ByteArray} (hj:j<ds.length) (t:ByteArray) (r:Int) (ht:St.tx (St.nodD D S (p+j)).1=t) (hr:(St.nodD D S (p+j)).2=r) :
  stE D S (p+j) (ds.drop j)=if r≠0 then r else if t=ds.getD j ByteArray.empty then stE D S (p+(j+1)) (ds.drop (j+1)) else 190:=by
 have e:ds.getD j ByteArray.empty=ds[j]:=by rw [List.getD_eq_getElem?_getD,List.getElem?_eq_getElem hj]; rfl
 rw [List.drop_eq_getElem_cons hj,stE,ht,hr,e,Nat.add_assoc]
theorem stE_end (D:St.DV) (S:St.SV) (p:Nat) (ds:List ByteArray):stE D S (p+ds.length) (ds.drop ds.length)=0:=by
 rw [List.drop_length]; rfl
theorem bytes_loop (bs:ByteArray) : ∀ (n i:Nat) (r:List UInt8),bs.size - i=n→ByteArray.toList.loop bs i r=r.reverse++bs.data.toList.drop i:=by
 intro n
 induction n with
 | zero =>
  intro i r h
  rw [ByteArray.toList.loop,if_neg (by omega)]
  rw [List.drop_eq_nil_of_le (by simp; exact (by omega:bs.size≤i)),List.append_nil]
 | succ n ih =>
  intro i r h
  have hi:i<bs.size:=by omega
  rw [ByteArray.toList.loop,if_pos hi,ih (i+1) _ (by omega)]
  have hl:i<bs.data.toList.length:=by simp; exact hi
  rw [List.drop_eq_getElem_cons hl,List.reverse_cons,List.append_assoc]
  have:bs.get! i=bs.data.toList[i]:=by
   show bs.data[i]! = _
   have hi2:i<bs.data.size:=hi
   rw [getElem!_pos bs.data i hi2]
   simp
  rw [this]; rfl
theorem bytes_eq (bs:ByteArray):bs.toList=bs.data.toList:=by
 rw [ByteArray.toList,bytes_loop bs bs.size 0 [] rfl]; rfl
theorem bne_text {x y:ByteArray} (h:x≠y):(x.toList == y.toList)=false:=by
 rw [bytes_eq,bytes_eq]
 simp only [beq_eq_false_iff_ne,ne_eq]
 intro e
 exact h (ByteArray.ext (Array.toList_inj.1 e))
section
variable {w W:World} {g:Int} {a q p m r:Nat} {vr vs:Value} {T:Nat→Prop} {D D':St.DV} {S S':St.SV} {L:List ByteArray}
set_option maxRecDepth 100000 in
set_option maxHeartbeats 2000000 in
theorem stand_any (w:World) (h:Led w g a q p m r vr vs T D S L) (pl:Nat) (ao:Option Addr) (b len cap:Nat) (ds:List ByteArray) (hr:RdS w ao b 0 len ds) (hz:len≤1000) (hpl:pl≤1000000) (e0:Int) (he:stE D S pl ds=e0) :
  Calls Tryz.prog 96 #[.pointer (some ⟨a,0,none⟩),.int .u64 (pl:Int),.slice ao len cap] w fun e w'=>e = .returned (.int .i64 e0)∧Below w.heap.size w w':=by
 have hl:=hr.hl
 have hc:=h.cells.2.1
 have hax:=World.block_lt_of_cell? _ _ hc
 have HC:Hid (∀ W,Below w.heap.size w W→W.cell? ⟨a,2,none⟩=some (.pointer (some ⟨q,0,none⟩))):=fun W hW=>(hW.cell (p:=⟨a,2,none⟩) hax).trans hc
 have HR:Hid (∀ W,Below w.heap.size w W→RdS W ao b 0 len ds):=fun W hW=>hr.next hW (Nat.le_refl _)
 have HN:Hid (∀ (W:World) (i:Nat) (t:ByteArray) (y:Int),Below w.heap.size w W→i<18446744073709551616→St.tx (St.nodD D S i).1=t→(St.nodD D S i).2=y→Calls Tryz.prog 162 #[.pointer (some ⟨q,0,none⟩),.int .u64 (i:Int)] W fun e w'=>e = .returned (.tuple #[.string t,.int .i64 y])∧Below w.heap.size w w'):=fun W i t y hW hi g1 g2=>(St.fnode_any W (h.sk.next hW) i hi t y g1 g2).mono fun e w' z=>⟨z.1,bnext hW z.2⟩
 have HE:=hide he
 have hptr:=hr.ptr
 clear h hr he hc
 go_enter Tryz.func96,Tryz.ntmps96
 go_wp2
 go_loopg [13] len (fun g x wr => ∃ j:Nat,j≤len∧g=len - j∧x = .int .i64 (j:Int)∧Hid (stE D S (pl+j) (ds.drop j)=stE D S pl ds)∧Hid (Below w.heap.size w wr))
 case atStart =>
  go_light
  exact ⟨0,Nat.zero_le _,rfl,rfl,rfl,Below.refl _ _⟩
 case round =>
  obtain ⟨j,hj,rfl,rfl,HS,HB⟩:=hrel
  by_cases hlt:j<len
  ·have hzj:(j:Int)<(len:Int):=by omega
   obtain rfl:=hptr (by omega)
   obtain ⟨d,hd⟩ : ∃ d,ds.getD j ByteArray.empty=d:=⟨_,rfl⟩
   have c0:=(HR.out wr HB.out).at hlt
   rw [hd,Nat.zero_add] at c0
   have c2:=HC.out wr HB.out
   obtain ⟨t,ht⟩ : ∃ t,St.tx (St.nodD D S (pl+j)).1=t:=⟨_,rfl⟩
   obtain ⟨y,hy⟩ : ∃ y,(St.nodD D S (pl+j)).2=y:=⟨_,rfl⟩
   have hs:=stE_at (D:=D) (S:=S) (p:=pl) (j:=j) (ds:=ds) (by omega) t y ht hy
   rw [HS.out,hd,HE.out] at hs
   obtain ⟨i,hi⟩ : ∃ i,pl+j=i:=⟨_,rfl⟩
   rw [hi] at ht hy
   have HN1:Hid (Calls Tryz.prog 162 #[.pointer (some ⟨q,0,none⟩),.int .u64 (i:Int)] wr fun e w'=>e = .returned (.tuple #[.string t,.int .i64 y])∧Below w.heap.size w w'):=HN.out wr i t y HB.out (by omega) ht hy
   have ew1:IntKind.u64.wrap (j:Int)=(j:Int):=by rw [IntKind.wrap_u64]; omega
   have ew2:IntKind.u64.wrap ((pl:Int)+(j:Int))=(i:Int):=by rw [IntKind.wrap_u64]; omega
   have ew3:IntKind.i64.wrap ((j:Int)+1)=((j+1:Nat):Int):=by rw [IntKind.wrap_i64]; omega
   have HQ:Hid (y≠0→e0=y):=fun q=>by rw [if_pos q] at hs; exact hs
   have HQ2:Hid (y=0 → ¬ t=d→e0=190):=fun q q2=>by rw [if_neg (fun x=>x q),if_neg q2] at hs; exact hs
   have HQ3:Hid (y=0→t=d→stE D S (pl+(j+1)) (ds.drop (j+1))=stE D S pl ds):=fun q q2=>by rw [if_neg (fun x=>x q),if_pos q2] at hs; rw [HE.out]; exact hs.symm
   clear ht hy hs hd hi HS HE HR HC HN hl
   by_cases h0:y=0
   ·subst h0
    by_cases h1:t=d
    ·subst h1
     have HS2:=hide (HQ3.out rfl rfl)
     clear HQ HQ2 HQ3
     go_wp2_with (go_at_call 162; (with_reducible refine HN1.out.mono ?_); rintro e w2 ⟨rfl,u⟩)
     go_roundg (len - (j+1))
     case rel =>
      go_light
      exact ⟨j+1,by omega,rfl,rfl,HS2,u⟩
     case measure=>go_light; omega
    ·have hb:=bne_text h1
     have hz:=HQ2.out rfl h1
     subst hz
     clear HQ HQ2 HQ3
     go_wp2_with (go_at_call 162; (with_reducible refine HN1.out.mono ?_); rintro e w2 ⟨rfl,u⟩)
     go_ret
     exact ⟨rfl,u⟩
   ·have hz:=HQ.out h0
    subst hz
    have h0b:(e0 == 0)=false:=by simpa using h0
    clear HQ HQ2 HQ3
    go_wp2_with (go_at_call 162; (with_reducible refine HN1.out.mono ?_); rintro e w2 ⟨rfl,u⟩)
    go_ret
    exact ⟨rfl,u⟩
  ·have hzj : ¬ (j:Int)<(len:Int):=by omega
   obtain rfl:j=len:=by omega
   have hz:e0=0:=by
    rw [← HE.out,← HS.out,← hl]
    exact stE_end D S pl ds
   subst hz
   have u:=HB.out
   clear HS HE HR HC HN hl HB
   go_wp2
   go_ret
   exact ⟨rfl,u⟩
end
end Go.Proofs.YtoblgjledefdbaaGreatDoor
