/- Own work. -/
import Derived.Test.YtoblgjledefdbaaGreatDoorQf32
namespace Go.Proofs.YtoblgjledefdbaaGreatDoor
open Go.RowKit
attribute [local go_sem ↓] Go.wp_at_zero Go.wp_at_succ
attribute [local go_sem ↓] St.exec_appR
theorem run_app_L (w:World) (ty B:Nat) (v:Value) (L:List ByteArray) (hown:OwnS w B v L) (ad:Addr) (mc:Nat) (c:ByteArray) (hr : ∀ j u,[Value.string c][j]? = some u→w.cell? (ad.add j)=some u)
  (hlen:L.length+1≤1048576) (hB:B≤w.heap.size) :
  ∃ v' w',(Builtin.append_ #[22,22] ty #[v,.slice (some ad) 1 mc]).run Tryz.prog w = .ok v' w'∧OwnS w' B v' (L++[c])∧St.WentE w w' v v':=by
 obtain ⟨i0,hi,hz0,hz1,hz2⟩:=info_parts Tryz.infoS
 have hap : ∀ {w':World} {v':Value} {n:Nat},n=L.length+1→w'.ownsRow B 9 1 v' n (L.map Value.string++[.string c])→OwnS w' B v' (L++[c]):=fun hn h=>by
  rw [OwnS,List.map_append,List.length_append,List.length_cons,List.length_nil,Nat.zero_add,← hn]; exact h
 have h1c : ∀ u∈([.string c]:List Value),u.oneCell'=true:=by intro u hu; simp at hu; subst hu; rfl
 have hown0:=hown
 rcases hown.2 with ⟨rfl,h0⟩ | ⟨g,cp,cur,rfl,hgb,hh,hc⟩
 ·have hL:L=[]:=List.length_eq_zero_iff.1 h0
  subst hL
  obtain ⟨v',w',hrun,r1,r2,_⟩:=run_append_own (P:=Tryz.prog) w w.heap.size 22 ty 9 i0 (.string ByteArray.empty) 1 16 Tryz.underlying22 hi hz0 hz1 hz2 rfl (by decide) _ 0 [] (World.ownsRow_nil _ _ _ _) ad 1 mc [.string c] rfl hr h1c (by decide) (by decide) (Nat.le_refl _)
  exact ⟨v',w',hrun,hap rfl (by simpa using World.ownsRow.mono r1 hB),.inr ⟨r2,fun k hk=>(World.ownsRow.lt r1 k hk).1⟩⟩
 ·by_cases hfit:L.length+1≤cp
  ·obtain ⟨w',hrun,r1,r2⟩:=run_append_fits (P:=Tryz.prog) w B 22 ty 9 i0 1 Tryz.underlying22 hi hz1 g L.length cp (L.map Value.string) hown0 ad 1 mc [.string c] rfl hr h1c hfit
   exact ⟨_,w',hrun,hap rfl r1,.inl ⟨g,L.length,cp,rfl,rfl,r2⟩⟩
  ·obtain ⟨v',w',hrun,r1,r2⟩:=run_append_arg_grows (P:=Tryz.prog) w 22 ty 9 i0 (.string ByteArray.empty) 1 16 Tryz.underlying22 hi hz0 hz1 hz2 rfl (by decide) ⟨g,0,none⟩ L.length cp (L.map Value.string) hown0.1 (World.ownsRow.cells hown0 rfl) ad 1 mc [.string c] rfl hr (by omega) (by unfold maxLen; omega) (by omega)
   exact ⟨v',w',hrun,hap rfl (World.ownsRow.mono r1 hB),.inr ⟨r2,fun k hk=>(World.ownsRow.lt r1 k hk).1⟩⟩
def TkQ (w:World) (g:Int) (a q p m r:Nat) (vr vs:Value) (T:Nat→Prop) (D:St.DV) (S:St.SV) (L:List ByteArray) (x:ByteArray) (r':Nat) (vr':Value) (W:World):Prop :=
 ∃ vs',Led W g a q p m r' vr' vs' T D S (L++[x])∧St.Upo (Lef a m r vr vs) w W ∧ ∀ b,vs'.ownBlock=some b→vs.ownBlock=some b∨w.heap.size≤b
section
variable {w w1 w2:World} {g:Int} {a q p m r r':Nat} {vr vs vr':Value} {T:Nat→Prop} {D:St.DV} {S:St.SV} {L:List ByteArray} {x:ByteArray}
structure Nw (w:World) (T:Nat→Prop) (vs:Value) (S:St.SV) (L:List ByteArray) (x:ByteArray) (r':Nat) (vr':Value):Prop where
 rg:Kp.Rg w r' vr' (S.k:Int) (L.length+1) (pkL S.k (L++[x]))
 nt : ¬ T r'
 nv : ∀ b,vr'.ownBlock=some b → ¬ T b∧vs.ownBlock≠some b
theorem two_ty {w:World} {b:Nat} {c c':Array Value} {t t':TypeId} {f f':Nat×Nat} (h:w.heap[b]? = some (.cells c t f)) (h':w.heap[b]? = some (.cells c' t' f')) (hne:t≠t'):False:=by
 rw [h] at h'
 injection h' with h'
 injection h' with _ h'
 exact hne h'
theorem take_tail (h:Led w g a q p m r vr vs T D S L) (hL:L.length<65536) (hx:x.size≤1048576) (hn:Nw w T vs S L x r' vr') (hb1:Below w.heap.size w w1) (hz1:w.heap.size<w1.heap.size)
  (hF2:Frs w2 m (S.k:Int) (L++[x])) (hU2:St.Upo (fun b=>b=m∨b=m+1) w1 w2) (w3 w4:World) (hw3:w2.setCell ⟨a,4,none⟩ (.pointer (some ⟨r',0,none⟩))=w3) (hw4:(w3.alloc (.cells #[.string (sm x)] 9)).drew=w4) :
  ∃ ao n cap w5,(Builtin.append_ #[22,22] 22 #[vs,.slice (some ⟨w3.heap.size,0,none⟩) 1 1]).run Tryz.prog w4 = .ok (.slice ao n cap) w5∧w5.heap[a]? = some (rwL g (.int .u32 0) (some ⟨q,0,none⟩) (.pointer (some ⟨m+1,0,none⟩)) (.pointer (some ⟨r',0,none⟩)) vs) ∧
   w3.heap[a]? = some (rwL g (.int .u32 0) (some ⟨q,0,none⟩) (.pointer (some ⟨m+1,0,none⟩)) (.pointer (some ⟨r',0,none⟩)) vs)∧w2.heap[a]? = some (rwL g (.int .u32 0) (some ⟨q,0,none⟩) (.pointer (some ⟨m+1,0,none⟩)) (.pointer (some ⟨r,0,none⟩)) vs) ∧
   TkQ w g a q p m r vr vs T D S L x r' vr' (w5.setCell ⟨a,5,none⟩ (.slice ao n cap)):=by
 obtain ⟨n1,n2,n3,n4,n5⟩:=h.nr
 have hrn:r'≠m∧r'≠m+1∧r'≠a:=by
  refine ⟨?_,?_,?_⟩
  ·rintro rfl
   obtain ⟨es,c,hx,_⟩:=h.fr.mp
   rw [hn.rg.blk] at hx; cases hx
  ·rintro rfl
   exact two_ty hn.rg.blk h.fr.blk (by decide)
  ·rintro rfl
   exact two_ty hn.rg.blk h.blk (by decide)
 have hvn : ∀ b,(vs.ownBlock=some b∨vr'.ownBlock=some b)→b≠m∧b≠m+1∧b≠a∧b<w.heap.size:=fun b hb=>by
  have hr : ∃ cur,w.heap[b]? = some (.cells cur 9 (0,0)):=hb.elim (row_blk h.own) (row_blk hn.rg.own)
  obtain ⟨cur,hc⟩:=hr
  refine ⟨?_,?_,?_,(Array.getElem?_eq_some_iff.1 hc).1⟩
  ·rintro rfl
   obtain ⟨es,c,hx,_⟩:=h.fr.mp
   rw [hc] at hx; cases hx
  ·rintro rfl
   exact two_ty hc h.fr.blk (by decide)
  ·rintro rfl
   exact two_ty hc h.blk (by decide)
 have hr'lt:=hn.rg.lt
 have halt:a<w.heap.size:=h.lt (.inl rfl)
 -- the worlds
 have b2 : ∀ b,b<w.heap.size→b≠m→b≠m+1→w2.heap[b]? = w.heap[b]? := fun b hb e1 e2=>(hU2.block b (by omega) (fun e=>e.elim e1 e2)).trans (hb1.block b hb)
 have s2:=hU2.size
 have b3 : ∀ b,b≠a→w3.heap[b]? = w2.heap[b]? := fun b hb=>by rw [← hw3]; exact Below.heap_setCell _ _ _ _ hb
 have s3:w3.heap.size=w2.heap.size:=by rw [← hw3]; simp
 have u4:Below w3.heap.size w3 w4:=by rw [← hw4]; exact (bal (Below.refl _ _) _).drew
 have s4:w4.heap.size=w3.heap.size+1:=by rw [← hw4]; simp
 have a2:w2.heap[a]? = some (rwL g (.int .u32 0) (some ⟨q,0,none⟩) (.pointer (some ⟨m+1,0,none⟩)) (.pointer (some ⟨r,0,none⟩)) vs):=(b2 a halt n1 n2).trans h.blk
 have a3:w3.heap[a]? = some (rwL g (.int .u32 0) (some ⟨q,0,none⟩) (.pointer (some ⟨m+1,0,none⟩)) (.pointer (some ⟨r',0,none⟩)) vs):=by rw [← hw3]; exact heap_setCell_same w2 a 4 _ _ _ a2
 have b4 : ∀ b,b<w.heap.size→b≠m→b≠m+1→b≠a→w4.heap[b]? = w.heap[b]? := fun b hb e1 e2 e3=>(u4.block b (by omega)).trans ((b3 b e3).trans (b2 b hb e1 e2))
 have o4:OwnS w4 0 vs (smL L):=St.row_keep h.own fun b hb=>b4 b (hvn b (.inl hb)).2.2.2 (hvn b (.inl hb)).1 (hvn b (.inl hb)).2.1 (hvn b (.inl hb)).2.2.1
 have c4 : ∀ j u,[Value.string (sm x)][j]? = some u→w4.cell? ((⟨w3.heap.size,0,none⟩:Addr).add j)=some u:=fun j u hu=>by
  rw [← hw4]
  show (w3.alloc (.cells #[.string (sm x)] 9)).cell? _=some u
  exact St.one_new w3 _ _ j u hu
 have hlen:(smL L).length=L.length:=by simp [smL]
 obtain ⟨v',w5,hap,o5,g5⟩:=run_app_L w4 22 0 vs (smL L) o4 ⟨w3.heap.size,0,none⟩ 1 (sm x) c4 (by omega) (Nat.zero_le _)
 obtain ⟨ao,n,cap,rfl⟩:=own_slice3 o5
 have t5:St.Upo (fun b=>vs.ownBlock=some b) w4 w5:=by
  rcases g5 with ⟨g,n,c,e1,e2,g3⟩ | ⟨g3,_⟩
  ·rw [e1]; exact St.Upo.grown g3 (fun b hb=>by cases hb; rfl)
  ·exact St.Upo.grown g3 (fun b hb=>by cases hb)
 have hv5 : ∀ b,(Value.slice ao n cap).ownBlock=some b→vs.ownBlock=some b∨w4.heap.size≤b:=fun b hb=>by
  rcases g5 with ⟨g',n,c,e1,e2,g3⟩ | ⟨_,g3⟩
  ·rw [e1]; rw [e2] at hb; exact .inl hb
  ·exact .inr (g3 b hb)
 have a5:w5.heap[a]? = some (rwL g (.int .u32 0) (some ⟨q,0,none⟩) (.pointer (some ⟨m+1,0,none⟩)) (.pointer (some ⟨r',0,none⟩)) vs):=(t5.block a (by omega) (fun e=>(hvn a (.inl e)).2.2.1 rfl)).trans ((u4.block a (by omega)).trans a3)
 refine ⟨ao,n,cap,w5,hap,a5,a3,a2,.slice ao n cap,?_,?_,fun b hb=>(hv5 b hb).imp id (fun e=>by omega)⟩
 ·have b5 : ∀ b,b<w4.heap.size→b≠a→vs.ownBlock≠some b→(w5.setCell ⟨a,5,none⟩ (.slice ao n cap)).heap[b]? = w4.heap[b]? := fun b hb e1 e2=>(Below.heap_setCell _ _ _ _ e1).trans (t5.block b hb e2)
  have hTn : ∀ b,T b→b<w.heap.size∧b≠m∧b≠m+1∧b≠a∧vs.ownBlock≠some b:=fun b hb =>
   ⟨h.sk.lt hb,fun e=>h.ap b hb (.inr (.inl e)),fun e=>h.ap b hb (.inr (.inr (.inl e))),fun e=>h.ap b hb (.inl e),fun e=>h.ap b hb (.inr (.inr (.inr (.inr (.inr e)))))⟩
  have hm2:=hF2.lt
  have hmne : ∀ b,(b=m∨b=m+1)→b<w4.heap.size∧b≠a∧vs.ownBlock≠some b:=fun b hb=>by
   refine ⟨by omega,fun e => ?_,fun e => ?_⟩
   ·rcases hb with hb | hb
    ·exact n1 (e.symm.trans hb)
    ·exact n2 (e.symm.trans hb)
   ·rcases hb with hb | hb
    ·exact (hvn b (.inl e)).1 hb
    ·exact (hvn b (.inl e)).2.1 hb
  have hk : ∀ b,(b=m∨b=m+1)→(w5.setCell ⟨a,5,none⟩ (.slice ao n cap)).heap[b]? = w2.heap[b]? := fun b hb=>by
   obtain ⟨e1,e2,e3⟩:=hmne b hb
   exact (b5 b e1 e2 e3).trans ((u4.block b (by rcases hb with rfl | rfl <;> omega)).trans (b3 b e2))
  refine ⟨heap_setCell_same w5 a 5 _ _ _ a5,h.sk.same fun b hb => ?_,hF2.same (hk m (.inl rfl)) (hk _ (.inr rfl)),⟨?_,St.row_keep hn.rg.own fun b hb => ?_,hn.rg.k1,hn.rg.k2,?_,?_,hn.rg.hs⟩,?_,?_,fun b hb hl => ?_,fun b hb => ?_⟩
  ·obtain ⟨e1,e2,e3,e4,e5⟩:=hTn b hb
   exact (b5 b (by omega) e4 e5).trans (b4 b e1 e2 e3 e4)
  ·rw [List.length_append,List.length_singleton]
   have:vs.ownBlock≠some r':=fun e=>by
    obtain ⟨cur,hc⟩:=row_blk h.own e
    exact two_ty hc hn.rg.blk (by decide)
   exact (b5 r' (by omega) hrn.2.2 this).trans ((b4 r' hr'lt hrn.1 hrn.2.1 hrn.2.2).trans hn.rg.blk)
  ·obtain ⟨e1,e2,e3,e4⟩:=hvn b (.inr hb)
   exact (b5 b (by omega) e3 (hn.nv b hb).2).trans (b4 b e4 e1 e2 e3)
  ·rw [List.length_append,List.length_singleton]; exact hn.rg.hn
  ·rw [List.length_append,List.length_singleton]; exact hn.rg.hl
  ·rw [smL,List.map_append]
   refine St.row_keep (v := .slice ao n cap) o5 fun b hb=>Below.heap_setCell _ _ _ _ ?_
   rcases hv5 b hb with e | e
   ·exact (hvn b (.inl e)).2.2.1
   ·show b≠a; omega
  ·intro s hs
   rcases List.mem_append.1 hs with e | e
   ·exact h.sz s e
   ·rw [List.mem_singleton.1 e]; exact hx
  ·obtain ⟨e1,e2,e3,e4,e5⟩:=hTn b hb
   rcases hl with e | e | e | e | e | e
   ·exact e4 e
   ·exact e2 e
   ·exact e3 e
   ·exact hn.nt (e ▸ hb)
   ·exact (hn.nv b e).1 hb
   ·exact (hv5 b e).elim e5 (fun e=>by omega)
  ·intro e
   obtain ⟨e1,e2,e3,e4⟩:=hvn b (.inr hb)
   exact (hv5 b e).elim (hn.nv b hb).2 (fun e=>by omega)
 ·have q1:St.Upo (fun b=>b=m∨b=m+1) w w2:=(St.Upo.of hb1).trans hU2 fun _ _ e=>e
  have q2:St.Upo (fun b=>b=m∨b=m+1∨b=a) w w3:=by rw [← hw3]; exact (q1.mono fun b _ e=>e.elim .inl (fun e => .inr (.inl e))).set a 4 _ (.inl (.inr (.inr rfl)))
  have q3:=(q2.next u4).mono (T:=Lef a m r vr vs) fun b _ e=>by
   rcases e with e | e | e
   ·exact .inr (.inl e)
   ·exact .inr (.inr (.inl e))
   ·exact .inl e
  exact (q3.trans t5 fun b _ e => .inr (.inr (.inr (.inr (.inr e))))).set a 5 _ (.inl (.inl rfl))
end
section
variable {g:Int} {a q p m r r':Nat} {vr vs vr':Value} {T:Nat→Prop} {D:St.DV} {S:St.SV} {L:List ByteArray} {x:ByteArray}
set_option maxRecDepth 100000 in
set_option maxHeartbeats 2000000 in
theorem ltake_any (w:World) (ht:Tb w) (h:Led w g a q p m r vr vs T D S L) (hL:L.length<65536) (hx:x.size≤1048576) (hn:Nw w T vs S L x r' vr') (va:Option Addr) (vn vc:Nat) :
  Calls Tryz.prog 97 #[.pointer (some ⟨a,0,none⟩),.agg #[.string x,.string (sm x),.slice va vn vc,.pointer (some ⟨r',0,none⟩)]] w fun e w'=>e = .returned (.tuple #[])∧TkQ w g a q p m r vr vs T D S L x r' vr' w':=by
 obtain ⟨s,hs⟩ : ∃ s,sm x=s:=⟨_,rfl⟩
 obtain ⟨w1,hw1⟩ : ∃ W,w.alloc (.cells #[.string x,.string s,.slice va vn vc,.pointer (some ⟨r',0,none⟩)] 175)=W:=⟨_,rfl⟩
 have u1:Below w.heap.size w w1:=by rw [← hw1]; exact bal (Below.refl _ _) _
 have k1:w1.heap[w.heap.size]? = some (.cells #[.string x,.string s,.slice va vn vc,.pointer (some ⟨r',0,none⟩)] 175 (0,0)):=by rw [← hw1]; exact heap_alloc_new w _
 have hz1:=(Array.getElem?_eq_some_iff.1 k1).1
 obtain ⟨b0,hb0⟩ : ∃ b,w.heap.size=b:=⟨_,rfl⟩
 rw [hb0] at k1
 have h1:=h.next u1
 have hm:=h.fr.lt
 have HF:Hid (∀ W,Below w1.heap.size w1 W→Calls Tryz.prog 163 #[.pointer (some ⟨m+1,0,none⟩),.string x] W fun e w' => ∃ v,e = .returned (.tuple #[v,.int .i64 0])∧Frs w' m (S.k:Int) (L++[x])∧St.Upo (fun b=>b=m∨b=m+1) w1 w'):=fun W hW =>
  (fappend_ok W ((ht.next u1).next hW) m S.k L (h1.next hW).fr x hx hL _ rfl).mono fun e w' z=>by
   obtain ⟨v,z1,z2,z3,z4⟩:=z
   exact ⟨v,z1,z2,(St.Upo.of hW).trans ⟨z4.below.os,z4.below.tape,z4.below.output,z4.below.size,fun b hb hne=>z4.block b hb (fun e=>hne (.inl e)) (fun e=>hne (.inr e))⟩ fun _ _ e=>e⟩
 obtain ⟨c0,c2,c3,c4,c5,cf⟩:=h1.cells
 have hax:=h1.lt (x:=a) (.inl rfl)
 have HC:Hid (∀ W,Below w1.heap.size w1 W→W.cell? ⟨a,3,none⟩=some (.pointer (some ⟨m+1,0,none⟩))∧W.cell? ⟨b0,0,none⟩=some (.string x)):=fun W hW=>⟨(hW.cell (p:=⟨a,3,none⟩) hax).trans c3,by rw [cell_of_row W b0 0 _ _ (0,0) ((hW.block _ (by omega)).trans k1)]; rfl⟩
 have HK:Hid (∀ W,St.Upo (fun b=>b=m∨b=m+1) w1 W→W.heap[b0]? = some (.cells #[.string x,.string s,.slice va vn vc,.pointer (some ⟨r',0,none⟩)] 175 (0,0))):=fun W hW=>(hW.block _ (by omega) (by omega)).trans k1
 have HC2:Hid (∀ W,St.Upo (fun b=>b=m∨b=m+1) w1 W→W.cell? ⟨a,3,none⟩=some (.pointer (some ⟨m+1,0,none⟩))∧W.cell? ⟨b0,0,none⟩=some (.string x)):=fun W hW=>by
  obtain ⟨n1,n2,_⟩:=h1.nr
  exact ⟨(World.cell?_of_block (a:=⟨a,3,none⟩) (hW.block a hax (fun e=>e.elim n1 n2))).trans c3,by rw [cell_of_row W b0 0 _ _ (0,0) (HK.out W hW)]; rfl⟩
 have HT:=hide (fun (W:World) (z1:Frs W m (S.k:Int) (L++[x])) (z2:St.Upo (fun b=>b=m∨b=m+1) w1 W)=>take_tail h hL hx hn u1 hz1 z1 z2 _ _ rfl rfl)
 obtain ⟨va2,vl2,vn2,rfl⟩:=own_slice3 h.own
 have hne : ¬ b0=a:=by have:=h.lt (x:=a) (.inl rfl); omega
 have u:Below w1.heap.size w1 w1.drew:=(Below.refl _ _).drew
 rw [hs] at HT ⊢
 have HW1:=hide hw1
 have HB0:=hide hb0
 obtain ⟨d3,d4⟩:=HC.out _ (Below.refl _ _)
 clear ht h h1 hx hL hn k1 u1 c0 c2 c3 c4 c5 cf hs hz1 hw1 hb0 hax hm
 go_enter Tryz.func97,Tryz.ntmps97
 go_upto_region 1 with (fail)
 rw [HW1.out,HB0.out]
 go_region_held3 (fun Z=>Z.cell? ⟨a,3,none⟩=some (.pointer (some ⟨m+1,0,none⟩))∧Z.cell? ⟨b0,0,none⟩=some (.string x)) (first | assumption | (with_reducible exact HC2.out _ u2) | (with_reducible exact HC.out _ u)) (first
  | (go_at_call 163; (with_reducible refine (HF.out _ u).mono ?_); rintro e w2 ⟨v,rfl,f2,u2⟩))
 all_goals
  obtain ⟨ao,n,cap,w5,hap,a5,a3,a2,ht⟩:=HT.out w2 f2 u2
  have HZ:=hide ht
  have k2:=HK.out w2 u2
  have e3:w2.cell? ⟨b0,3,none⟩=some (.pointer (some ⟨r',0,none⟩)):=by rw [cell_of_row w2 b0 3 _ _ (0,0) k2]; rfl
  obtain ⟨_,_,_,d4,_,df⟩:=rwL_at a2
  have f4:=df 4
  obtain ⟨w3,hw3⟩ : ∃ W,w2.setCell ⟨a,4,none⟩ (.pointer (some ⟨r',0,none⟩))=W:=⟨_,rfl⟩
  rw [hw3] at hap a3
  have k3:w3.heap[b0]? = some (.cells #[.string x,.string s,.slice va vn vc,.pointer (some ⟨r',0,none⟩)] 175 (0,0)):=by rw [← hw3]; exact (Below.heap_setCell _ _ _ _ hne).trans k2
  clear ht HT HK HC HC2 HF f2 u2 d3 df k2 a2
  obtain ⟨_,_,_,_,q5,_⟩:=rwL_at a3
  obtain ⟨_,_,_,_,q6,qf⟩:=rwL_at a5
  have q7:=qf 5
  have x1:w3.cell? ⟨b0,1,none⟩=some (.string s):=by rw [cell_of_row w3 b0 1 _ _ (0,0) k3]; rfl
  have ub:Below w3.heap.size w3 (w3.alloc (.cells #[.string s] 9)).drew:=(bal (Below.refl _ _) _).drew
  have q8:(w3.alloc (.cells #[.string s] 9)).drew.cell? ⟨a,5,none⟩=_:=(ub.cell (p:=⟨a,5,none⟩) (Array.getElem?_eq_some_iff.1 a3).1).trans q5
  have x2:(w3.alloc (.cells #[.string s] 9)).drew.cell? ⟨b0,1,none⟩=_:=(ub.cell (p:=⟨b0,1,none⟩) (Array.getElem?_eq_some_iff.1 k3).1).trans x1
  have ha:=St.appR_of hap
  have hne2 : ¬ a=b0:=fun e=>hne e.symm
  clear a5 a3 k3 ub qf hap
  go_upto_region 3 with (fail)
  go_region
  all_goals
   go_wp2
   exact bodyPost_end (results_none rfl _ Tryz.prog _) rfl ⟨rfl,HZ.out⟩
end
end Go.Proofs.YtoblgjledefdbaaGreatDoor
namespace Go.Proofs.YtoblgjledefdbaaGreatDoor
open Go.RowKit
def Lg (w:World) (g:Int) (a p:Nat) (U:Nat→Prop) (D:St.DV) (S:St.SV) (L:List ByteArray):Prop :=
 ∃ q m r vr vs T,Led w g a q p m r vr vs T D S L∧(∀ x,U x↔T x∨Lef a m r vr vs x) ∧ ¬ U 3
def LgM (w w':World) (g:Int) (a p:Nat) (U:Nat→Prop) (D':St.DV) (S':St.SV) (L':List ByteArray):Prop :=
 ∃ U',Lg w' g a p U' D' S' L'∧(∀ x,U' x→U x∨w.heap.size≤x)∧St.Upo U w w'
theorem Tb.lt {w:World} (ht:Tb w):3<w.heap.size:=range_lt ht.rs (cW_ne (by rw [RS_len]; decide))
theorem Tb.upo {w W:World} {U:Nat→Prop} (ht:Tb w) (h:St.Upo U w W) (hn : ¬ U 3):Tb W:=by
 refine ⟨fun j u hu => ?_⟩
 rw [← ht.rs j u hu]
 have:=h.block _ ht.lt hn
 simp only [World.cell?,this]
section
variable {w w1 W:World} {g:Int} {a q p m r:Nat} {vr vs:Value} {T U:Nat→Prop} {D D' D2:St.DV} {S S' S2:St.SV} {L L' L2:List ByteArray}
theorem Lg.lt (h:Lg w g a p U D S L) {x:Nat} (hx:U x):x<w.heap.size:=by
 obtain ⟨q,m,r,vr,vs,T,h1,h2,_⟩:=h
 exact ((h2 x).1 hx).elim h1.sk.lt h1.lt
theorem Lg.own (h:Lg w g a p U D S L):U a:=by
 obtain ⟨q,m,r,vr,vs,T,h1,h2,_⟩:=h
 exact (h2 a).2 (.inr (.inl rfl))
theorem Lg.same (h:Lg w g a p U D S L) (hb : ∀ x,U x→W.heap[x]? = w.heap[x]?):Lg W g a p U D S L:=by
 obtain ⟨q,m,r,vr,vs,T,h1,h2,h3⟩:=h
 exact ⟨q,m,r,vr,vs,T,h1.same (fun x hx=>hb x ((h2 x).2 (.inl hx))) (fun x hx=>hb x ((h2 x).2 (.inr hx))),h2,h3⟩
theorem Lg.next (h:Lg w g a p U D S L) (hb:Below w.heap.size w W):Lg W g a p U D S L:=h.same fun x hx=>hb.block x (h.lt hx)
theorem Lg.lkd (h:Lg w 0 a p U D S L) (hL:Lkd a w W):Lg W 1 a p U D S L:=by
 obtain ⟨q,m,r,vr,vs,T,h1,h2,h3⟩:=h
 exact ⟨q,m,r,vr,vs,T,h1.lkd hL,h2,h3⟩
theorem Lg.set (h:Lg w g a p U D S L) (g':Int):Lg (w.setCell ⟨a,0,none⟩ (.int .i32 g')) g' a p U D S L:=by
 obtain ⟨q,m,r,vr,vs,T,h1,h2,h3⟩:=h
 exact ⟨q,m,r,vr,vs,T,h1.set g',h2,h3⟩
theorem Lg.sk (h:Lg w g a p U D S L) : ∃ q T,w.cell? ⟨a,2,none⟩=some (.pointer (some ⟨q,0,none⟩))∧St.Sk w q p T D S:=by
 obtain ⟨q,m,r,vr,vs,T,h1,h2,h3⟩:=h
 exact ⟨q,T,h1.cells.2.1,h1.sk⟩
theorem Lg.row (h:Lg w g a p U D S L) : ∃ q m r vs,w.heap[a]? = some (rwL g (.int .u32 0) (some ⟨q,0,none⟩) (.pointer (some ⟨m+1,0,none⟩)) (.pointer (some ⟨r,0,none⟩)) vs)∧Frs w m (S.k:Int) L∧OwnS w 0 vs (smL L):=by
 obtain ⟨q,m,r,vr,vs,T,h1,h2,h3⟩:=h
 exact ⟨q,m,r,vs,h1.blk,h1.fr,h1.own⟩
theorem LgM.of (h:Lg w g a p U D S L) (hb:Below w.heap.size w W):LgM w W g a p U D S L:=⟨U,h.next hb,fun _ hx => .inl hx,St.Upo.of hb⟩
theorem Led.add (h:Led w g a q p m r vr vs T D S L) (hm:St.SkM w W q p T D' S') (hk:S'.k=S.k) : ∃ T',Led W g a q p m r vr vs T' D' S' L∧(∀ x,T' x→T x∨w.heap.size≤x)∧St.Upo T w W:=by
 obtain ⟨T',h1,h2,h3⟩:=hm
 have hk' : ∀ x,Lef a m r vr vs x→W.heap[x]? = w.heap[x]? := fun x hx=>h3.block x (h.lt hx) (fun e=>h.ap x e hx)
 refine ⟨T',⟨(hk' a (.inl rfl)).trans h.blk,h1,?_,?_,St.row_keep h.own fun x hx=>hk' x (.inr (.inr (.inr (.inr (.inr hx))))),h.sz,fun x hx hl => ?_,h.av⟩,h2,h3⟩
 ·rw [hk]; exact h.fr.same (hk' m (.inr (.inl rfl))) (hk' _ (.inr (.inr (.inl rfl))))
 ·rw [hk]; exact ⟨(hk' r (.inr (.inr (.inr (.inl rfl))))).trans h.rg.blk,St.row_keep h.rg.own fun x hx=>hk' x (.inr (.inr (.inr (.inr (.inl hx))))),h.rg.k1,h.rg.k2,h.rg.hn,h.rg.hl,h.rg.hs⟩
 ·rcases h2 x hx with e | e
  ·exact h.ap x e hl
  ·have:=h.lt hl; omega
end
theorem addD_k (D:St.DV) (S:St.SV) (x:List UInt8) (ds:List ByteArray):(St.addD D S x ds).2.1.k=S.k:=by
 unfold St.addD
 split
 ·rfl
 ·split <;> rfl
theorem addD_ends (D:St.DV) (S:St.SV) (x:List UInt8) (ds:List ByteArray):((St.addD D S x ds).2.2=0∧(St.addD D S x ds).2.1.ends.length=S.ends.length+1)∨((St.addD D S x ds).2.2≠0∧(St.addD D S x ds).2.1.ends=S.ends):=by
 unfold St.addD
 split
 ·exact .inr ⟨by assumption,rfl⟩
 ·split
  ·exact .inl ⟨rfl,by simp⟩
  ·exact .inr ⟨by assumption,rfl⟩
def aD (D:St.DV) (S:St.SV) (L:List ByteArray) (x:ByteArray):St.DV×St.SV×List ByteArray×Int :=
 if 1048576<x.size then (D,S,L,100) else if 65536≤S.ends.length then (D,S,L,101) else
 ((St.addD D S x.data.toList (mdL S.k L x)).1,(St.addD D S x.data.toList (mdL S.k L x)).2.1,if (St.addD D S x.data.toList (mdL S.k L x)).2.2=0 then L++[x] else L,(St.addD D S x.data.toList (mdL S.k L x)).2.2)
end Go.Proofs.YtoblgjledefdbaaGreatDoor
namespace Go.Proofs.YtoblgjledefdbaaGreatDoor
open Go.RowKit
attribute [local go_sem ↓] Go.wp_at_zero Go.wp_at_succ
theorem rds_st {w:World} {ao:Option Addr} {b off len:Nat} {ss:List ByteArray} (h:RdS w ao b off len ss):St.Rc.RdS w ao b off len ss:=⟨h.hl,h.ptr,h.rng,h.sz⟩
theorem trl_le' (f n:Nat):Pl.trl f n≤f:=by
 induction f generalizing n with
 | zero=>exact Nat.le_refl _
 | succ f ih =>
  have:=ih (n / 2)
  simp only [Pl.trl]
  split <;> omega
section
variable {p:Nat} {U:Nat→Prop} {D D':St.DV} {S S':St.SV} {L L':List ByteArray}
set_option maxRecDepth 100000 in
set_option maxHeartbeats 4000000 in
theorem add_any (w:World) (ht:Tb w) (a:Nat) (h:Lg w 1 a p U D S L) (he:S.ends.length=L.length) (hrm:St.Rm 7 D) (x:ByteArray) (hx:x.size≤9223372036854775807) (e0:Int) (hA:aD D S L x=(D',S',L',e0)) :
  Calls Tryz.prog 49 #[.pointer (some ⟨a,0,none⟩),.string x] w fun e w'=>e = .returned (.int .i64 e0)∧LgM w w' 1 a p U D' S' L':=by
 obtain ⟨q,m,r,vr,vs,T,hl,hU,hn⟩:=h
 have hLg:Lg w 1 a p U D S L:=⟨q,m,r,vr,vs,T,hl,hU,hn⟩
 have hst:=hl.cells.2.1
 have hax:=World.block_lt_of_cell? _ _ hst
 unfold aD at hA
 by_cases h1:1048576<x.size
 ·rw [if_pos h1] at hA
  obtain ⟨rfl,rfl,rfl,rfl⟩:D=D'∧S=S'∧L=L'∧100=e0:=by injection hA with e1 e2; injection e2 with e2 e3; injection e3 with e3 e4; exact ⟨e1,e2,e3,e4⟩
  have hd:decide ((1048576:Int)<(x.size:Int))=true:=decide_eq_true (by omega)
  have HZ:=hide hLg
  clear hA ht hrm hl hU hn hLg h1 he
  go_enter Tryz.func49,Tryz.ntmps49
  go_wp2
  go_ret
  exact ⟨rfl,LgM.of HZ.out (Below.refl _ _)⟩
 rw [if_neg h1] at hA
 have hd1:decide ((1048576:Int)<(x.size:Int))=false:=decide_eq_false (by omega)
 have HSz:Hid (Calls Tryz.prog 74 #[.pointer (some ⟨q,0,none⟩)] w fun e w'=>e = .returned (.int .u64 (S.ends.length:Int))∧w=w'):=(St.fsize_any w hl.sk).mono fun e w' z=>⟨z.1,z.2.symm⟩
 by_cases h2:65536≤S.ends.length
 ·rw [if_pos h2] at hA
  obtain ⟨rfl,rfl,rfl,rfl⟩:D=D'∧S=S'∧L=L'∧101=e0:=by injection hA with e1 e2; injection e2 with e2 e3; injection e3 with e3 e4; exact ⟨e1,e2,e3,e4⟩
  have hd:decide ((65536:Int)≤(S.ends.length:Int))=true:=decide_eq_true (by omega)
  have HZ:=hide hLg
  clear hA ht hrm hl hU hn hLg h1 h2 he
  go_enter Tryz.func49,Tryz.ntmps49
  go_wp2_with (go_at_call 74; (with_reducible refine HSz.out.mono ?_); rintro e w1 ⟨rfl,rfl⟩)
  go_ret
  exact ⟨rfl,LgM.of HZ.out (Below.refl _ _)⟩
 rw [if_neg h2] at hA
 have hd2:decide ((65536:Int)≤(S.ends.length:Int))=false:=decide_eq_false (by omega)
 have k2:=hl.k1
 have hcl:=hl.clk
 obtain ⟨DA,hDA⟩ : ∃ y,St.addD D S x.data.toList (mdL S.k L x)=y:=⟨_,rfl⟩
 rw [hDA] at hA
 have hk':=addD_k D S x.data.toList (mdL S.k L x)
 have he':=addD_ends D S x.data.toList (mdL S.k L x)
 rw [hDA] at hk' he'
 obtain ⟨D1,S1,e1⟩:=DA
 obtain ⟨rfl,rfl,hL',rfl⟩:D1=D'∧S1=S'∧(if e1=0 then L++[x] else L)=L'∧e1=e0:=by injection hA with e1 e2; injection e2 with e2 e3; injection e3 with e3 e4; exact ⟨e1,e2,e3,e4⟩
 simp only at hk' he'
 obtain ⟨s,hs⟩ : ∃ s,sm x=s:=⟨_,rfl⟩
 have HNx:Hid (Calls Tryz.prog 95 #[.pointer (some ⟨a,0,none⟩),.string x] w (NxQ w S.k L x)):=next_any w ht a m r vr S.k L hl.fr hl.rg hcl hl.cells.2.2.1 hl.cells.2.2.2.1 x (by omega) (by omega)
 have hml:(mdL S.k L x).length≤1000:=by rw [mdL_len]; have:=trl_le' 40 L.length; omega
 have HAd:Hid (∀ W va vn vc,Below w.heap.size w W→OwnS W w.heap.size (.slice va vn vc) (mdL S.k L x)→Calls Tryz.prog 100 #[.pointer (some ⟨q,0,none⟩),.string x,.slice va vn vc] W fun e w'=>e = .returned (.int .i64 e1)∧St.SkM W w' q p T D1 S1):=fun W va vn vc hW ho=>by
  obtain ⟨ao,b,cap,hv,hr,_,_⟩:=owns_rds ho (fun y hy=>by rw [mdL_sz k2.2 L x y hy]; omega)
  injection hv with e1 e2 e3
  subst e1 e2 e3
  exact St.add_any W (hl.sk.next hW) hrm x hx va b 0 _ vc (mdL S.k L x) (rds_st hr) (by omega) D1 S1 e1 hDA
 have HC:Hid (∀ W,Below w.heap.size w W→W.cell? ⟨a,2,none⟩=some (.pointer (some ⟨q,0,none⟩))):=fun W hW=>(hW.cell (p:=⟨a,2,none⟩) hax).trans hst
 have HU:=hide hU
 have HNt:=hide hn
 have HLd:=hide hl
 have HLe:=hide hL'
 have HK':=hide hk'
 have HE':=hide he'
 have HEL:=hide he
 have HSS:=hide hs
 have HXX:=hide (And.intro h1 h2)
 have HTB:=hide ht
 clear hU hn hl hL' hk' he' he hs hx h1 h2 ht hA hDA hml hcl k2 hrm hLg hax
 go_enter Tryz.func49,Tryz.ntmps49
 go_upto_region 6 with (first
  | (go_at_call 74; (with_reducible refine HSz.out.mono ?_); rintro e w1 ⟨rfl,rfl⟩)
  | (go_at_call 95; (with_reducible refine HNx.out.mono ?_); rintro e w1 ⟨vm,r',vr',rfl,om,hr',lr,lv,u1⟩; obtain ⟨va,vn,vc,rfl⟩:=own_slice3 om; rw [HSS.out]))
 obtain ⟨b0,hb0⟩ : ∃ b,w1.heap.size=b:=⟨_,rfl⟩
 obtain ⟨w2,hw2⟩ : ∃ W,w1.alloc (.cells #[.string x,.string s,.slice va vn vc,.pointer (some ⟨r',0,none⟩)] 175)=W:=⟨_,rfl⟩
 have k2:w2.heap[b0]? = some (.cells #[.string x,.string s,.slice va vn vc,.pointer (some ⟨r',0,none⟩)] 175 (0,0)):=by rw [← hw2,← hb0]; exact heap_alloc_new w1 _
 have u2:Below w1.heap.size w1 w2:=by rw [← hw2]; exact bal (Below.refl _ _) _
 have z2:=(Array.getElem?_eq_some_iff.1 k2).1
 have v2:Below w.heap.size w w2:=bnext u1 u2
 have o2:OwnS w2 w.heap.size (.slice va vn vc) (mdL S.k L x):=own_next om u2 (Nat.le_refl _)
 have HB0:=hide hb0
 have g2:Kp.Rg w2 r' vr' (S.k:Int) (L.length+1) (pkL S.k (L++[x])):=hr'.next u2 (Nat.le_refl _)
 have HW2:=hide hw2
 have HC2:Hid (∀ W,Below w2.heap.size w2 W→W.cell? ⟨a,2,none⟩=some (.pointer (some ⟨q,0,none⟩))∧W.cell? ⟨b0,2,none⟩=some (.slice va vn vc)):=fun W hW=>⟨HC.out W (bnext v2 hW),by rw [cell_of_row W b0 2 _ _ (0,0) ((hW.block _ z2).trans k2)]; rfl⟩
 have HA2:Hid (∀ W,Below w2.heap.size w2 W→Calls Tryz.prog 100 #[.pointer (some ⟨q,0,none⟩),.string x,.slice va vn vc] W fun e w'=>e = .returned (.int .i64 e1)∧St.SkM w2 w' q p T D1 S1):=fun W hW=>(HAd.out W va vn vc (bnext v2 hW) (own_mono (own_next o2 hW (Nat.le_refl _)) (Nat.le_refl _))).mono fun e w' z=>⟨z.1,St.SkM.first hW z.2⟩
 have HK2:Hid (∀ W,St.SkM w2 W q p T D1 S1→W.cell? ⟨a,2,none⟩=some (.pointer (some ⟨q,0,none⟩))∧W.heap[b0]? = some (.cells #[.string x,.string s,.slice va vn vc,.pointer (some ⟨r',0,none⟩)] 175 (0,0))):=fun W hW=>by
  obtain ⟨T',t1,t2,t3⟩:=hW
  have hT : ∀ b,T b→b<w.heap.size:=fun b hb=>HLd.out.sk.lt hb
  exact ⟨(World.cell?_of_block (a:=⟨a,2,none⟩) (t3.block a (by have:=v2.size; have:=HLd.out.lt (x:=a) (.inl rfl); omega) (fun e=>HLd.out.ap a e (.inl rfl)))).trans (HC.out w2 v2),(t3.block _ z2 (fun e=>by have:=hT _ e; have:=u1.size; omega)).trans k2⟩
 have HK3:Hid (∀ W,St.SkM w2 W q p T D1 S1→W.cell? ⟨a,2,none⟩=some (.pointer (some ⟨q,0,none⟩))∧W.cell? ⟨b0,2,none⟩=some (.slice va vn vc)):=fun W hW=>⟨(HK2.out W hW).1,by rw [cell_of_row W b0 2 _ _ (0,0) (HK2.out W hW).2]; rfl⟩
 have HEr:Hid (∀ W,¬ e1=0→St.SkM w2 W q p T D1 S1→LgM w W 1 a p U D1 S1 L'):=fun W h0 hW=>by
  obtain ⟨T',t1,t2,t3⟩:=(HLd.out.next v2).add hW HK'.out
  have hLe:=HLe.out
  rw [if_neg h0] at hLe
  subst hLe
  refine ⟨fun y=>T' y∨Lef a m r vr vs y,⟨q,m,r,vr,vs,T',t1,fun _=>Iff.rfl,fun e => ?_⟩,fun y hy => ?_,(St.Upo.of v2).trans t3 fun y _ ht=>(HU.out y).2 (.inl ht)⟩
  ·rcases e with e | e
   ·rcases t2 _ e with e | e
    ·exact HNt.out ((HU.out _).2 (.inl e))
    ·have:=HTB.out.lt; have:=v2.size; omega
   ·exact HNt.out ((HU.out _).2 (.inr e))
  ·rcases hy with e | e
   ·exact (t2 y e).imp (fun e=>(HU.out y).2 (.inl e)) (fun e=>Nat.le_trans v2.size e)
   ·exact .inl ((HU.out y).2 (.inr e))
 have HOk:Hid (∀ W,e1=0→St.SkM w2 W q p T D1 S1→Calls Tryz.prog 97 #[.pointer (some ⟨a,0,none⟩),.agg #[.string x,.string s,.slice va vn vc,.pointer (some ⟨r',0,none⟩)]] W fun e w'=>e = .returned (.tuple #[])∧LgM w w' 1 a p U D1 S1 L'):=fun W h0 hW=>by
  obtain ⟨T',t1,t2,t3⟩:=(HLd.out.next v2).add hW HK'.out
  have hLe:=HLe.out
  rw [if_pos h0] at hLe
  have hT' : ∀ y,T' y→y<w.heap.size∨w2.heap.size≤y:=fun y hy=>(t2 y hy).imp (fun e=>HLd.out.sk.lt e) id
  have nw:Nw W T' vs S1 L x r' vr':=by
   refine ⟨?_,fun e => ?_,fun b hb=>⟨fun e => ?_,fun e => ?_⟩⟩
   ·rw [HK'.out]
    exact ⟨(t3.block _ g2.lt (fun e=>by have:=HLd.out.sk.lt e; omega)).trans g2.blk,St.row_keep g2.own fun b hb=>t3.block b (own_lt g2.own hb) (fun e=>by have:=HLd.out.sk.lt e; have:=lv b hb; omega),g2.k1,g2.k2,g2.hn,g2.hl,g2.hs⟩
   ·have:=g2.lt; rcases hT' _ e with e | e <;> omega
   ·have:=own_lt g2.own hb; have:=lv b hb; rcases hT' _ e with e | e <;> omega
   ·have:=lv b hb; have:=own_lt HLd.out.own e; omega
  have htW:Tb W:=(HTB.out.next v2).upo t3 fun e=>HNt.out ((HU.out _).2 (.inl e))
  have htk:=ltake_any W htW t1 (by have:=HXX.out.2; have:=HEL.out; omega) (by have:=HXX.out.1; omega) nw va vn vc
  rw [HSS.out] at htk
  refine htk.mono fun e w' z=>⟨z.1,?_⟩
  obtain ⟨vs',y1,y2,y3⟩:=z.2
  rw [hLe] at y1
  refine ⟨fun y=>T' y∨Lef a m r' vr' vs' y,⟨q,m,r',vr',vs',T',y1,fun _=>Iff.rfl,fun e => ?_⟩,fun y hy => ?_,((St.Upo.of v2).trans t3 fun y _ ht=>(HU.out y).2 (.inl ht)).trans y2 fun y _ ht=>(HU.out y).2 (.inr ht)⟩
  ·have htb:=HTB.out.lt
   have h3:=t3.size
   have hs2:=v2.size
   rcases e with e | e | e | e | e | e | e
   ·rcases t2 _ e with e | e
    ·exact HNt.out ((HU.out _).2 (.inl e))
    ·omega
   ·exact HNt.out ((HU.out _).2 (.inr (.inl e)))
   ·exact HNt.out ((HU.out _).2 (.inr (.inr (.inl e))))
   ·exact HNt.out ((HU.out _).2 (.inr (.inr (.inr (.inl e)))))
   ·omega
   ·have:=lv _ e; omega
   ·rcases y3 _ e with e | e
    ·exact HNt.out ((HU.out _).2 (.inr (.inr (.inr (.inr (.inr (.inr e)))))))
    ·omega
  ·have h3:=t3.size
   have hs2:=v2.size
   rcases hy with e | e | e | e | e | e | e
   ·exact (t2 y e).imp (fun e=>(HU.out y).2 (.inl e)) (fun e=>by omega)
   ·exact .inl ((HU.out y).2 (.inr (.inl e)))
   ·exact .inl ((HU.out y).2 (.inr (.inr (.inl e))))
   ·exact .inl ((HU.out y).2 (.inr (.inr (.inr (.inl e)))))
   ·exact .inr (by omega)
   ·exact .inr (lv y e)
   ·exact (y3 y e).imp (fun e=>(HU.out y).2 (.inr (.inr (.inr (.inr (.inr (.inr e))))))) (fun e=>by omega)
 obtain ⟨d1,d2⟩:=HC2.out w2 (Below.refl _ _)
 have u:Below w2.heap.size w2 w2.drew:=(Below.refl _ _).drew
 rw [HW2.out,HB0.out]
 clear k2 z2 v2 u2 u1 o2 om g2 hr' lr lv HAd hb0 hw2 HLd HU HNt HLe HK' HE' HEL HSS HXX HTB hst HSz HNx HC
 go_region_held3 (fun Z=>Z.cell? ⟨a,2,none⟩=some (.pointer (some ⟨q,0,none⟩))∧Z.cell? ⟨b0,2,none⟩=some (.slice va vn vc)) (first | assumption | (with_reducible exact HK3.out _ t3) | (with_reducible exact HC2.out _ u)) (first
  | (go_at_call 100; (with_reducible refine (HA2.out _ u).mono ?_); rintro e w3 ⟨rfl,t3⟩))
 all_goals
  by_cases h0:e1=0
  ·have HT:=hide (HOk.out w3 h0 t3)
   have k3:=(HK2.out w3 t3).2
   have y0:w3.cell? ⟨b0,0,none⟩=some (.string x):=by rw [cell_of_row w3 b0 0 _ _ (0,0) k3]; rfl
   have y1:w3.cell? ⟨b0,1,none⟩=some (.string s):=by rw [cell_of_row w3 b0 1 _ _ (0,0) k3]; rfl
   have y2:w3.cell? ⟨b0,2,none⟩=some (.slice va vn vc):=by rw [cell_of_row w3 b0 2 _ _ (0,0) k3]; rfl
   have y3:w3.cell? ⟨b0,3,none⟩=some (.pointer (some ⟨r',0,none⟩)):=by rw [cell_of_row w3 b0 3 _ _ (0,0) k3]; rfl
   clear HOk HEr HK2 HK3 HC2 HA2 t3 k3 d1 d2
   subst h0
   go_wp2_with (go_at_call 97; (with_reducible refine HT.out.mono ?_); rintro e w4 ⟨rfl,t4⟩)
   go_ret
   exact ⟨rfl,t4⟩
  ·have HT:=hide (HEr.out w3 h0 t3)
   have h0b:(e1 == 0)=false:=by simpa using h0
   clear HOk HEr HK2 HK3 HC2 HA2 t3 d1 d2
   go_wp2
   go_ret
   exact ⟨rfl,HT.out⟩
end
end Go.Proofs.YtoblgjledefdbaaGreatDoor
