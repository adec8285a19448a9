/- Own work. -/
import Derived.Deep.RegionHeld3
import Derived.Test.YtoblgjledefdbaaGreatDoorQf15
namespace Go.Proofs.YtoblgjledefdbaaGreatDoor.St
open Go.RowKit
structure RdF (w:World) (ao:Option Addr) (b off:Nat) (l:List (List UInt8×List UInt8)):Prop where
 ptr:0<l.length→ao=some ⟨b,off,none⟩
 c0 : ∀ j,j<l.length→w.cell? ⟨b,off+j * 2,none⟩=some (.string ⟨(l.getD j ([],[])).1.toArray⟩)
 c1 : ∀ j,j<l.length→w.cell? ⟨b,off+j * 2+1,none⟩=some (.string ⟨(l.getD j ([],[])).2.toArray⟩)
section
variable {w W:World} {ao:Option Addr} {b off:Nat} {l:List (List UInt8×List UInt8)}
theorem RdF.lt (h:RdF w ao b off l) (h0:0<l.length):b<w.heap.size:=World.block_lt_of_cell? w _ (h.c0 0 h0)
theorem RdF.same (h:RdF w ao b off l) (hb:0<l.length→W.heap[b]? = w.heap[b]?):RdF W ao b off l :=
 ⟨h.ptr,fun j hj=>(World.cell?_of_block (a:=⟨b,off+j * 2,none⟩) (hb (by omega))).trans (h.c0 j hj),fun j hj=>(World.cell?_of_block (a:=⟨b,off+j * 2+1,none⟩) (hb (by omega))).trans (h.c1 j hj)⟩
theorem RdF.next (h:RdF w ao b off l) (hb:Below w.heap.size w W):RdF W ao b off l:=h.same fun h0=>hb.block b (h.lt h0)
end
theorem cF_at : ∀ (l:List (List UInt8×List UInt8)) (j:Nat),j<l.length→(cF l)[j * 2]? = some (.string ⟨(l.getD j ([],[])).1.toArray⟩)∧(cF l)[j * 2+1]? = some (.string ⟨(l.getD j ([],[])).2.toArray⟩)
 | [],j,h=>by simp at h
 | x::r,0,_=>⟨rfl,rfl⟩
 | x::r,j+1,h=>by
  have:=cF_at r j (by simpa using h)
  rw [show (j+1) * 2=j * 2+2 by omega]
  exact this
theorem ownF_rd {w:World} {B:Nat} {v:Value} {l:List (List UInt8×List UInt8)} (h:OwnF w B v l) : ∃ ao b cap,v = .slice ao l.length cap∧RdF w ao b 0 l∧l.length≤cap∧(0<l.length→B≤b):=by
 rcases h.2 with ⟨e1,e2⟩ | ⟨g,cap,cur,e1,e2,hb,h1,h2,h3,h4⟩
 ·refine ⟨none,0,0,by rw [e1,e2],⟨fun h0 => ?_,fun j hj => ?_,fun j hj => ?_⟩,by omega,fun h0 => ?_⟩ <;> omega
 ·have at' : ∀ i,i<l.length * 2→w.cell? ⟨g,i,none⟩=(cF l)[i]? := fun i hi=>by
   rw [cell_of_row w g i cur _ (0,0) hb]
   have:=congrArg (fun x=>x[i]?) h4
   simp only [List.getElem?_take,if_pos hi] at this
   rw [Array.getElem?_toList] at this
   exact this
  refine ⟨some ⟨g,0,none⟩,g,cap,e1,⟨fun _=>rfl,fun j hj => ?_,fun j hj => ?_⟩,h1,fun _=>e2⟩
  ·rw [Nat.zero_add,at' _ (by omega)]; exact (cF_at l j hj).1
  ·rw [Nat.zero_add,at' _ (by omega)]; exact (cF_at l j hj).2
structure Fm (w:World) (m:Nat) (R:List UInt8→FR) (L:List (List UInt8×FV)):Prop where
 mp:Mv w m (mapF L R)
 ord:Ord L
 fil : ∀ s∈keys L,Fil w (fget L s) (R s)
 apart : ∀ s∈keys L,∀ t∈keys L,s≠t → ∀ x,Blk (R s) x→Blk (R t) x→False
 nm : ∀ s∈keys L,s.length≤maxLen
 cnt:L.length≤1099511627776
theorem Fm.put {w W:World} {m:Nat} {R:List UInt8→FR} {L:List (List UInt8×FV)} {s:List UInt8} {f:FV} {r:FR} (h:Fm w m R L) (hf:Fil w f r) (hs:s.length≤maxLen)
  (hap : ∀ t∈keys L,t≠s → ∀ x,Blk (R t) x→Blk r x→False) (hc:L.length<1099511627776)
  (hmp:Mv W m (updF (mapF L R) s (if f.gone then none else some (fval f r)))) (hu:Upo (fun x=>x=m) w W):Fm W m (updR R s r) (fput L s f):=by
 have kt : ∀ x,Ty w x 5→W.heap[x]? = w.heap[x]? := fun x hx=>hu.block x hx.lt (hx.mv h.mp)
 have inl : ∀ t,t∈keys (fput L s f)→t≠s→t∈keys L:=fun t ht hne=>by
  have:=(keys_put h.ord s f t).1 ht
  rwa [if_neg hne] at this
 refine ⟨by rw [mapF_put h.ord]; exact hmp,ord_fput h.ord s f,fun t ht => ?_,fun t ht u hu' hne x hx hy => ?_,fun t ht => ?_,?_⟩
 ·rw [fget_fput h.ord,updR]
  by_cases e:t=s
  ·rw [if_pos e,if_pos e]; exact hf.same fun x hx=>kt x (hf.blk hx)
  ·rw [if_neg e,if_neg e]
   have:=h.fil t (inl t ht e)
   exact this.same fun x hx=>kt x (this.blk hx)
 ·simp only [updR] at hx hy
  by_cases e:t=s
  ·rw [if_pos e] at hx
   have e2:u≠s:=fun q=>hne (e.trans q.symm)
   rw [if_neg e2] at hy
   exact hap u (inl u hu' e2) e2 x hy hx
  ·rw [if_neg e] at hx
   by_cases e2:u=s
   ·rw [if_pos e2] at hy
    exact hap t (inl t ht e) e x hx hy
   ·rw [if_neg e2] at hy
    exact h.apart t (inl t ht e) u (inl u hu' e2) hne x hx hy
 ·by_cases e:t=s
  ·rw [e]; exact hs
  ·exact h.nm t (inl t ht e)
 ·have:=len_put (L:=L) s f
  omega
theorem Fm.same {w W:World} {m:Nat} {R:List UInt8→FR} {L:List (List UInt8×FV)} (h:Fm w m R L) (hm:W.heap[m]? = w.heap[m]?) (hb : ∀ x,Ty w x 5→W.heap[x]? = w.heap[x]?):Fm W m R L :=
 ⟨h.mp.same hm,h.ord,fun s hs=>(h.fil s hs).same fun x hx=>hb x ((h.fil s hs).blk hx),h.apart,h.nm,h.cnt⟩
def layL (l:List (List UInt8×List UInt8)):List (List UInt8×FV):=l.foldl (fun acc x=>if x.2=[] then acc else fput acc x.1 ⟨x.2,x.2⟩) []
theorem layL_snoc (l:List (List UInt8×List UInt8)) (x:List UInt8×List UInt8):layL (l++[x])=if x.2=[] then layL l else fput (layL l) x.1 ⟨x.2,x.2⟩:=by simp [layL]
theorem layL_len (l:List (List UInt8×List UInt8)):(layL l).length≤l.length:=by
 suffices h : ∀ (l:List (List UInt8×List UInt8)) (acc:List (List UInt8×FV)),(l.foldl (fun acc x=>if x.2=[] then acc else fput acc x.1 ⟨x.2,x.2⟩) acc).length≤acc.length+l.length from by simpa [layL] using h l []
 intro l
 induction l with
 | nil=>intro acc; simp
 | cons x r ih =>
  intro acc
  rw [List.foldl_cons]
  have:=ih (if x.2=[] then acc else fput acc x.1 ⟨x.2,x.2⟩)
  split at this
  ·rw [if_pos (by assumption)]; simp; omega
  ·rw [if_neg (by assumption)]
   have q:=len_put (L:=acc) x.1 ⟨x.2,x.2⟩
   simp
   omega
theorem rw_bytes (w:World) (s:ByteArray) (cap:Nat) (hc:s.size≤cap):Rw (w.alloc (.cells (bytesRow s cap) 5 ((bytesRow s cap).size,(bytesRow s cap).size+1))) (some ⟨w.heap.size,0,none⟩) w.heap.size cap s.data.toList:=by
 have hd:s.data.size=s.size:=rfl
 have hsz:(bytesRow s cap).size=cap:=by simp only [bytesRow,Array.size_append,Array.size_map,Array.size_replicate,hd]; omega
 refine ⟨.inr rfl,fun e=>(by cases e),fun _=>⟨_,_,new1 _ _⟩,by rw [size_list]; exact hc,fun _ j v hv => ?_,fun _ j hj=>⟨?_,?_⟩⟩
 ·have hj:j<s.data.size:=by have:=(List.getElem?_eq_some_iff.1 hv).1; rw [cY_len,Array.length_toList] at this; exact this
  rw [Nat.zero_add,World.cell?_alloc_mark,bytesRow_at s cap j hj,← hv]
  simp [cY,Array.getElem?_eq_getElem hj]
 ·rw [Nat.zero_add,World.cell?_alloc_mark,Array.getElem?_eq_getElem (by omega)]; rfl
 ·rw [Nat.zero_add,World.frozen?_alloc_mark,hsz]
  simp
  omega
theorem bytes_any (W:World) (t:ByteArray) : ∃ c W',(convert 9 127 (.string t)).run Tryz.prog W = .ok (.slice (some ⟨W.heap.size,0,none⟩) t.size c) W'∧Rw W' (some ⟨W.heap.size,0,none⟩) W.heap.size c t.data.toList∧Below W.heap.size W W'∧W.heap.size<W'.heap.size:=by
 have h:=run_bytes_of_string (P:=Tryz.prog) W 9 127 5 t Tryz.underlying9 Tryz.underlying127 Tryz.underlying5
 exact ⟨_,_,h,rw_bytes W.drew t _ (grownCap_ge W t.size 0 5),(below_drewN (Below.refl _ W) 1).alloc (Nat.le_refl _) _,by show W.drew.heap.size<(W.drew.alloc _).heap.size; simp⟩
set_option maxRecDepth 100000 in
set_option maxHeartbeats 2000000 in
theorem laid_any (w:World) (ao:Option Addr) (b off c:Nat) (l:List (List UInt8×List UInt8)) (hr:RdF w ao b off l) (hs : ∀ x∈l,x.1.length≤maxLen∧x.2.length≤268435456) (hl:l.length≤1099511627776) :
  Calls Tryz.prog 51 #[.slice ao l.length c] w fun e w' => ∃ R,e = .returned (.map (some w.heap.size))∧Fm w' w.heap.size R (layL l)∧(∀ s∈keys (layL l),∀ x,Blk (R s) x→w.heap.size≤x)∧Below w.heap.size w w':=by
 have hmm := @run_makeMap Tryz.prog
 obtain ⟨n,hn⟩ : ∃ n,l.length=n:=⟨_,rfl⟩
 have HH:Hid (RdF w ao b off l∧(∀ x∈l,x.1.length≤maxLen∧x.2.length≤268435456)∧l.length=n∧n≤1099511627776):=⟨hr,hs,hn,by omega⟩
 rw [hn]
 clear hr hs hl hn
 go_enter Tryz.func51,Tryz.ntmps51
 go_wp2
 go_loopg [9] n (fun g i wr => ∃ (j:Nat) (R:List UInt8→FR),j≤n∧g=n - j∧i = .int .i64 (j:Int)∧Fm wr w.heap.size R (layL (l.take j))∧(∀ s∈keys (layL (l.take j)),∀ x,Blk (R s) x→w.heap.size≤x)∧Below w.heap.size w wr)
 case atStart =>
  refine ⟨0,fun _=>fr0,Nat.zero_le _,rfl,rfl,⟨?_,ord_nil,fun s h=>(by cases h),fun s h=>(by cases h),fun s h=>(by cases h),Nat.zero_le _⟩,fun s h=>(by cases h),bal (Below.refl _ _) _⟩
  have:=mv_new w
  exact this
 case round =>
  obtain ⟨j,R,hj,rfl,rfl,hF,hlow,hb⟩:=hrel
  by_cases hlt:j<n
  ·obtain ⟨x,hx⟩ : ∃ x,l.getD j ([],[])=x:=⟨_,rfl⟩
   have hxm:x∈l:=by
    rw [← hx,List.getD_eq_getElem?_getD,List.getElem?_eq_getElem (by rw [HH.out.2.2.1]; exact hlt)]
    exact List.getElem_mem _
   obtain ⟨hx1,hx2⟩:=HH.out.2.1 x hxm
   have rr:=HH.out.1.next hb
   have c0:=rr.c0 j (by rw [HH.out.2.2.1]; exact hlt)
   have c1:=rr.c1 j (by rw [HH.out.2.2.1]; exact hlt)
   rw [hx] at c0 c1
   have ea:=rr.ptr (by rw [HH.out.2.2.1]; omega)
   obtain ⟨nm,hnm⟩ : ∃ nm:ByteArray,(⟨x.1.toArray⟩:ByteArray)=nm:=⟨_,rfl⟩
   obtain ⟨dt,hdt⟩ : ∃ dt:ByteArray,(⟨x.2.toArray⟩:ByteArray)=dt:=⟨_,rfl⟩
   rw [hnm] at c0
   rw [hdt] at c1
   have hnl:nm.data.toList=x.1:=by rw [← hnm]
   have hdl:dt.data.toList=x.2:=by rw [← hdt]
   have hi1:(0:Int)≤(j:Int):=by omega
   have hi2:(j:Int)<(n:Int):=by omega
   have hw:IntKind.i64.wrap ((j:Int)+1)=(j:Int)+1:=by have:=HH.out.2.2.2; rw [IntKind.wrap_i64]; omega
   have htk:l.take (j+1)=l.take j++[x]:=by rw [← hx]; exact take_snoc _ _ _ (by rw [HH.out.2.2.1]; exact hlt)
   have hst:=layL_snoc (l.take j) x
   rw [← htk] at hst
   have HG:Hid (Fm wr w.heap.size R (layL (l.take j))∧(∀ s∈keys (layL (l.take j)),∀ x,Blk (R s) x→w.heap.size≤x)∧Below w.heap.size w wr∧j<n∧nm.data.toList=x.1∧dt.data.toList=x.2∧x.1.length≤maxLen∧x.2.length≤268435456∧layL (l.take (j+1))=if x.2=[] then layL (l.take j) else fput (layL (l.take j)) x.1 ⟨x.2,x.2⟩):=⟨hF,hlow,hb,hlt,hnl,hdl,hx1,hx2,hst⟩
   subst ea
   obtain ⟨w1,hw1⟩ : ∃ W,wr.alloc (.cells #[.string nm,.string dt] 72)=W:=⟨_,rfl⟩
   have HW:Hid (wr.alloc (.cells #[.string nm,.string dt] 72)=w1):=hw1
   have hb1:Below wr.heap.size wr w1:=by rw [← hw1]; exact bal (Below.refl _ _) _
   have k1:w1.heap[wr.heap.size]? = some (.cells #[.string nm,.string dt] 72 (0,0)):=by rw [← hw1]; exact new1 _ _
   have d0:w1.cell? ⟨wr.heap.size,0,none⟩=some (.string nm):=by rw [cell_of_row w1 wr.heap.size 0 _ _ (0,0) k1]; rfl
   have d1:w1.cell? ⟨wr.heap.size,1,none⟩=some (.string dt):=by rw [cell_of_row w1 wr.heap.size 1 _ _ (0,0) k1]; rfl
   have HB1:Hid (Below wr.heap.size wr w1∧w1.heap[wr.heap.size]? = some (.cells #[.string nm,.string dt] 72 (0,0))):=⟨hb1,k1⟩
   clear hF hlow hb hx hxm hx1 hx2 rr hnm hdt hnl hdl htk hst hw1 hb1 k1 hlt hj
   go_upto_region 5 with (fail)
   rw [HW.out]
   by_cases hd0:dt.size=0
   ·have hz : ¬ ((dt.size:Int) > 0):=by omega
    have HF:Hid (Fm w1 w.heap.size R (layL (l.take (j+1)))∧(∀ s∈keys (layL (l.take (j+1))),∀ x,Blk (R s) x→w.heap.size≤x)∧Below w.heap.size w w1):=by
     obtain ⟨hF,hlow,hb,hlt,hnl,hdl,hx1,hx2,hst⟩:=HG.out
     have:x.2=[]:=by rw [← hdl]; exact List.length_eq_zero_iff.1 (by rw [size_list]; exact hd0)
     rw [if_pos this] at hst
     rw [hst]
     exact ⟨hF.same (HB1.out.1.block _ hF.mp.lt) (fun x hx=>HB1.out.1.block x hx.lt),hlow,bnext hb HB1.out.1⟩
    clear hd0
    go_wp2
    go_roundg (n - (j+1))
    case rel =>
     go_light
     exact ⟨j+1,R,by have:=HG.out.2.2.2.1; omega,rfl,by go_num,HF.out⟩
    case measure=>go_light; have:=HG.out.2.2.2.1; omega
   ·have hz:(0:Int)<(dt.size:Int):=by omega
    obtain ⟨cp,w2,hcv,rw2,hb2,hz2⟩:=bytes_any w1.drew dt
    have hb2':Below w1.heap.size w1 w2:=⟨hb2.os,hb2.tape,hb2.output,hb2.size,hb2.block⟩
    have HS:=fsync_any w2 (some ⟨w1.heap.size,0,none⟩) w1.heap.size dt.size cp dt.data.toList none 0 0 0 0 [] rw2 (rw_nil w2 0) (size_list dt) rfl (Nat.zero_le _) (Nat.le_refl _) rfl (by have:=HG.out.2.2.2.2.2; rw [← this.1,size_list] at this; omega)
    have HCl:Hid (∀ W,Below w1.heap.size w1 W→W.cell? ⟨wr.heap.size,0,none⟩=some (.string nm)∧W.cell? ⟨wr.heap.size,1,none⟩=some (.string dt)):=fun W hW=>by
     have e:=(hW.block wr.heap.size (Array.getElem?_eq_some_iff.1 HB1.out.2).1).trans HB1.out.2
     exact ⟨by rw [cell_of_row W wr.heap.size 0 _ _ (0,0) e]; rfl,by rw [cell_of_row W wr.heap.size 1 _ _ (0,0) e]; rfl⟩
    have HFin:Hid (∀ (w3:World) b' h' d',Rw w3 b' h' d' dt.data.toList→Upo (fun x=>(none:Option Addr)=some ⟨0,0,none⟩∧x=0) w2 w3→((b'=none∧h'=0)∨(w2.heap.size≤h'∧h'<w3.heap.size)) →
      ∃ w4,(Instr.mapUpdate 96 (.map (some w.heap.size)) (.string nm) (fv (some ⟨w1.heap.size,0,none⟩) dt.size cp b' dt.size d' dt.size)).run Tryz.prog w3 = .ok () w4 ∧ ∃ R',Fm w4 w.heap.size R' (layL (l.take (j+1)))∧(∀ s∈keys (layL (l.take (j+1))),∀ x,Blk (R' s) x→w.heap.size≤x)∧Below w.heap.size w w4∧w4.cell? ⟨wr.heap.size,0,none⟩=some (.string nm)∧w4.cell? ⟨wr.heap.size,1,none⟩=some (.string dt)):=fun w3 b' h' d' r3 u3 loc=>by
     obtain ⟨hF,hlow,hb,hlt,hnl,hdl,hx1,hx2,hst⟩:=HG.out
     have hb3:Below w2.heap.size w2 w3:=⟨u3.os,u3.tape,u3.output,u3.size,fun x hx=>u3.block x hx (fun q=>by cases q.1)⟩
     have hbw:Below wr.heap.size wr w3:=bnext HB1.out.1 (bnext hb2' hb3)
     have hF3:Fm w3 w.heap.size R (layL (l.take j)):=hF.same (hbw.block _ hF.mp.lt) (fun x hx=>hbw.block x hx.lt)
     have hfil:Fil w3 ⟨x.2,x.2⟩ ⟨some ⟨w1.heap.size,0,none⟩,w1.heap.size,cp,b',h',d',dt.size⟩:=by
      rw [← hdl]
      refine ⟨rw2.same fun _=>hb3.block _ hz2,r3,by rw [size_list]; exact Nat.le_refl _,by rw [size_list]; exact Nat.le_refl _,rfl,fun _ e => ?_,by rw [hdl]; exact hx2,by rw [hdl]; exact hx2⟩
      rcases loc with ⟨q,_⟩ | q
      ·rw [q] at e; cases e
      ·show w1.heap.size≠h'
       have:w1.heap.size<w2.heap.size:=hz2
       omega
     have hg:(⟨x.2,x.2⟩:FV).gone=false:=by
      cases e:(⟨x.2,x.2⟩:FV).gone
      ·rfl
      ·have:=(gone_len.1 e).1
       rw [← hdl,size_list] at this
       exact absurd this hd0
     have hne : ¬ x.2=[]:=fun e=>hd0 (by rw [← size_list,hdl,e]; rfl)
     rw [if_neg hne] at hst
     have hlen:=layL_len (l.take j)
     have hcl:(layL (l.take j)).length<1099511627776:=by
      rw [List.length_take] at hlen
      have:=HH.out.2.2.2
      omega
     obtain ⟨w4,h1,h2,h3⟩:=hF3.mp.write Tryz.underlying96 (keys_nodup hF.ord) (keys_map _ R) (by rw [keys_len]; unfold maxLen; omega) (s:=nm) (by rw [← size_list,hnl]; exact hx1) (fv (some ⟨w1.heap.size,0,none⟩) dt.size cp b' dt.size d' dt.size)
     refine ⟨w4,h1,updR R x.1 ⟨some ⟨w1.heap.size,0,none⟩,w1.heap.size,cp,b',h',d',dt.size⟩,?_⟩
     have hold : ∀ t∈keys (layL (l.take j)),∀ y,Blk (R t) y→y<wr.heap.size:=fun t ht y hy=>((hF.fil t ht).blk hy).lt
     have hnew : ∀ y,Blk (⟨some ⟨w1.heap.size,0,none⟩,w1.heap.size,cp,b',h',d',dt.size⟩:FR) y→wr.heap.size≤y:=fun y hy=>by
      have:=HB1.out.1.size
      rcases hy with ⟨_,e⟩ | ⟨e,e2⟩
      ·simp only at e; omega
      ·rcases loc with ⟨q,_⟩ | q
       ·simp only at e; rw [q] at e; cases e
       ·simp only at e2; have:w1.heap.size<w2.heap.size:=hz2; omega
     have hu4:Upo (fun x=>x=w.heap.size) w3 w4:=Upo.grown h3 (fun b e=>by injection e with e; exact e.symm)
     rw [hst]
     refine ⟨hF3.put hfil hx1 (fun t ht _ y h1 h2=>by have:=hold t ht y h1; have:=hnew y h2; omega) hcl ?_ hu4,fun t ht y hy => ?_,?_,?_⟩
     ·rw [hg,← hnl]
      have e:fval ⟨x.2,x.2⟩ ⟨some ⟨w1.heap.size,0,none⟩,w1.heap.size,cp,b',h',d',dt.size⟩=fv (some ⟨w1.heap.size,0,none⟩) dt.size cp b' dt.size d' dt.size:=by
       simp only [fval,← hdl,size_list]
      rw [e]
      exact h2
     ·simp only [updR] at hy
      have hws:=hb.size
      by_cases e:t=x.1
      ·rw [if_pos e] at hy
       have:=hnew y hy
       omega
      ·rw [if_neg e] at hy
       refine hlow t ?_ y hy
       have:=(keys_put hF.ord x.1 ⟨x.2,x.2⟩ t).1 ht
       rwa [if_neg e] at this
     ·have:=bnext hb hbw
      exact ⟨hu4.os.trans this.os,hu4.tape.trans this.tape,hu4.output.trans this.output,Nat.le_trans this.size hu4.size,fun y hy=>(hu4.block y (by have:=this.size; omega) (fun e=>by omega)).trans (this.block y hy)⟩
     ·have q:=HCl.out w3 (bnext hb2' hb3)
      have hm:=hF.mp.lt
      have hbl:w4.heap[wr.heap.size]? = w3.heap[wr.heap.size]? := hu4.block _ (World.block_lt_of_cell? _ _ q.1) (fun e=>by omega)
      exact ⟨(World.cell?_of_block (a:=⟨wr.heap.size,0,none⟩) hbl).trans q.1,(World.cell?_of_block (a:=⟨wr.heap.size,1,none⟩) hbl).trans q.2⟩
    have HB2:=hide hb2'
    clear rw2 hb2 hb2' hz2 hd0
    go_upto_region 6 with (fail)
    obtain ⟨e20,e21⟩:=HCl.out _ HB2.out
    have HS':Calls Tryz.prog 101 #[.agg #[.slice (some ⟨w1.heap.size,0,none⟩) dt.size cp,.slice none 0 0,.int .i64 0]] w2 fun e w' => ∃ b' h' d',e = .returned (fv (some ⟨w1.heap.size,0,none⟩) dt.size cp b' dt.size d' dt.size)∧Rw w' b' h' d' dt.data.toList∧Upo (fun x=>(none:Option Addr)=some ⟨0,0,none⟩∧x=0) w2 w'∧((b'=none∧h'=0)∨(w2.heap.size≤h'∧h'<w'.heap.size)):=HS.mono fun e w' q=>by obtain ⟨b',h',d',q1,q2,q3,q4,_⟩:=q; exact ⟨b',h',d',q1,q2,q3,q4⟩
    clear HS
    go_region_with (go_at_call 101; with_reducible refine HS'.mono ?_; rintro e w3 ⟨b',h',d',rfl,r3,u3,loc⟩; obtain ⟨e30,e31⟩:=HCl.out w3 (bnext HB2.out ⟨u3.os,u3.tape,u3.output,u3.size,fun x hx=>u3.block x hx (fun q=>by cases q.1)⟩); obtain ⟨w4,hmu,R',HF'⟩:=HFin.out w3 b' h' d' r3 u3 loc)
    all_goals
     have HFh:=hide HF'
     clear HF' hmu hcv e20 e21 e30 e31 d0 d1 r3 u3 loc HS' c0 c1
     go_wp2
     go_roundg (n - (j+1))
     case rel =>
      go_light
      obtain ⟨q1,q2,q3,_⟩:=HFh.out
      exact ⟨j+1,R',by have:=HG.out.2.2.2.1; omega,rfl,by go_num,q1,q2,q3⟩
     case measure=>go_light; have:=HG.out.2.2.2.1; omega
  ·obtain rfl:j=n:=by omega
   have hc : ¬ ((j:Int)<(j:Int)):=by omega
   have HR:Hid (Fm wr w.heap.size R (layL l)∧(∀ s∈keys (layL l),∀ x,Blk (R s) x→w.heap.size≤x)∧Below w.heap.size w wr):=by
    rw [List.take_of_length_le (by rw [HH.out.2.2.1]; exact Nat.le_refl _)] at hF hlow
    exact ⟨hF,hlow,hb⟩
   clear hF hlow hb hlt hj
   go_wp2
   go_ret
   exact ⟨rfl,R,HR.out⟩
def downD (D:DV) (ks:List Bool):DV := { D with L:=layL (aft ks D.L 0),down:=true }
theorem aft_mem {ks:List Bool} : ∀ {L:List (List UInt8×FV)} {i:Nat} {x:List UInt8×List UInt8},x∈aft ks L i → ∃ f j,(x.1,f)∈L∧x.2=(stay ks f j).1
 | [],_,_,h=>by simp [aft] at h
 | (s,f)::r,i,x,h=>by
  simp only [aft] at h
  split at h
  ·obtain ⟨f',j,h1,h2⟩:=aft_mem h
   exact ⟨f',j,List.mem_cons_of_mem _ h1,h2⟩
  ·rcases List.mem_cons.1 h with h | h
   ·exact ⟨f,i,by rw [h]; simp,by rw [h]⟩
   ·obtain ⟨f',j,h1,h2⟩:=aft_mem h
    exact ⟨f',j,List.mem_cons_of_mem _ h1,h2⟩
theorem aft_len (ks:List Bool) : ∀ (L:List (List UInt8×FV)) (i:Nat),(aft ks L i).length≤L.length
 | [],_=>by simp [aft]
 | (s,f)::r,i=>by
  have:=aft_len ks r (stay ks f i).2
  simp only [aft]
  split
  ·simp; omega
  ·simp; omega
theorem stay_le (ks:List Bool) (f:FV) (i:Nat) (h1:f.now.length≤268435456) (h2:f.syn.length≤268435456):(stay ks f i).1.length≤268435456:=by
 rw [stay_len,slen]
 split
 ·exact h2
 ·split
  ·exact h1
  ·exact h2
section
variable {p m:Nat} {R:List UInt8→FR} {ka:Option Addr} {kb ko kc:Nat} {D:DV}
theorem Dk.aft_ok {w:World} (h:Dk w p m R ka kb ko kc D none) (ks:List Bool):(∀ x∈aft ks D.L 0,x.1.length≤maxLen∧x.2.length≤268435456)∧(aft ks D.L 0).length≤1099511627776:=by
 refine ⟨fun x hx => ?_,Nat.le_trans (aft_len _ _ _) h.cnt⟩
 obtain ⟨f,j,h1,h2⟩:=aft_mem hx
 have hk:x.1∈keys D.L:=List.mem_map.2 ⟨_,h1,rfl⟩
 have hF:=h.fil x.1 hk (by simp)
 rw [fget_mem h.ord h1] at hF
 exact ⟨h.nm _ hk,by rw [h2]; exact stay_le _ _ _ hF.b1 hF.b2⟩
set_option maxRecDepth 100000 in
set_option maxHeartbeats 1000000 in
theorem godown_any (w:World) (h:Dk w p m R ka kb ko kc D none) (ao:Option Addr) (b o c:Nat) (ks:List Bool) (hk:RdL w ao b o ks) (hkl:ks.length≤9223372036854775807) :
  Calls Tryz.prog 330 #[.pointer (some ⟨p,0,none⟩),.slice ao ks.length c] w fun e w' => ∃ m' R',e = .returned (.int .i64 170)∧Dk w' p m' R' ka kb ko kc (downD D ks) none∧(∀ x,Foot p m' R' kb (downD D ks) x→x=p∨(0<D.ks.length∧x=kb)∨w.heap.size≤x)∧Upo (fun x=>x=p) w w':=by
 have HA:=after_any w h ao b o c ks hk hkl
 have HH:=hide h
 clear hk hkl
 have HL:Hid (∀ W v,OwnF W w.heap.size v (aft ks D.L 0)→Below w.heap.size w W→Calls Tryz.prog 51 #[v] W fun e w' => ∃ R,e = .returned (.map (some W.heap.size))∧Fm w' W.heap.size R (layL (aft ks D.L 0))∧(∀ s∈keys (layL (aft ks D.L 0)),∀ x,Blk (R s) x→W.heap.size≤x)∧Below W.heap.size W w'):=fun W v ho hb=>by
  obtain ⟨ao',b',c',rfl,hr,_⟩:=ownF_rd ho
  exact laid_any W ao' b' 0 c' _ hr (HH.out.aft_ok ks).1 (HH.out.aft_ok ks).2
 have HC:Hid (∀ W,Below w.heap.size w W→(∀ j,W.frozen? ⟨p,j,none⟩=false)∧W.cell? ⟨p,1,none⟩=some (.map (some m))∧W.cell? ⟨p,6,none⟩=some (.bool D.down)):=fun W hb=>by
  have:=HH.out.next hb
  exact ⟨this.frz,this.cells.2.1,this.cells.2.2.2.2.2.2⟩
 clear h
 go_enter Tryz.func330,Tryz.ntmps330
 go_upto_region 2 with (first
  | (go_at_call 17; (with_reducible refine HA.mono ?_); rintro e w1 ⟨v,rfl,ho,hb1⟩; obtain ⟨va,vc,rfl⟩:=own_slice ho)
  | (go_at_call 51; (with_reducible refine (HL.out _ _ ho hb1).mono ?_); rintro e w2 ⟨R',rfl,hF,hlow,hb2⟩; obtain ⟨fz,c1,c6⟩:=HC.out w2 (bnext hb1 hb2)))
 obtain ⟨w3,hw3⟩ : ∃ W,w2.setCell ⟨p,1,none⟩ (.map (some w1.heap.size))=W:=⟨_,rfl⟩
 have h2:=HH.out.next (bnext hb1 hb2)
 have hpl:=HH.out.lt (.inl rfl)
 have j3:w3.heap[p]? = some (.cells #[.int .i64 (D.free:Int),.map (some w1.heap.size),.int .i64 (D.acts:Int),.int .i64 D.fa,.int .i64 D.fk,.slice ka D.ks.length kc,.bool D.down] 98 (0,0)):=by
  rw [← hw3]
  exact heap_setCell_same w2 p 1 _ _ _ h2.blk
 have u3:Upo (fun x=>x=p) w2 w3:=by rw [← hw3]; exact (Upo.refl (fun x=>x=p) w2).set _ _ _ (.inl rfl)
 have f3:=fun j=>frozen_of_row w3 p j _ _ j3
 have d6:w3.cell? ⟨p,6,none⟩=some (.bool D.down):=by rw [cell_of_row w3 p 6 _ _ (0,0) j3]; rfl
 have HF:Hid (Fm w2 w1.heap.size R' (layL (aft ks D.L 0))∧(∀ s∈keys (layL (aft ks D.L 0)),∀ x,Blk (R' s) x→w1.heap.size≤x)∧Below w.heap.size w w2∧Upo (fun x=>x=p) w2 w3∧p<w.heap.size∧w.heap.size≤w1.heap.size∧w3.heap[p]? = some (.cells #[.int .i64 (D.free:Int),.map (some w1.heap.size),.int .i64 (D.acts:Int),.int .i64 D.fa,.int .i64 D.fk,.slice ka D.ks.length kc,.bool D.down] 98 (0,0))):=⟨hF,hlow,bnext hb1 hb2,u3,hpl,hb1.size,j3⟩
 rw [hw3]
 clear hw3 hF hlow hb2 u3 hpl j3 h2 fz c1 c6 ho hb1 HA HL HC
 go_wp2
 go_ret
 obtain ⟨hF,hlow,hb2,u3,hpl,hz,j3⟩:=HF.out
 have j4:(w3.setCell ⟨p,6,none⟩ (.bool true)).heap[p]? = some (.cells #[.int .i64 (D.free:Int),.map (some w1.heap.size),.int .i64 (D.acts:Int),.int .i64 D.fa,.int .i64 D.fk,.slice ka D.ks.length kc,.bool true] 98 (0,0)):=heap_setCell_same w3 p 6 _ _ _ j3
 have u4:Upo (fun x=>x=p) w2 (w3.setCell ⟨p,6,none⟩ (.bool true)):=u3.set _ _ _ (.inl rfl)
 have hu:Upo (fun x=>x=p) w (w3.setCell ⟨p,6,none⟩ (.bool true)):=(Upo.of hb2).trans u4 (fun _ _ q=>q)
 have hmne:w1.heap.size≠p:=by omega
 have kt : ∀ x,Ty w2 x 5→(w3.setCell ⟨p,6,none⟩ (.bool true)).heap[x]? = w2.heap[x]? := fun x hx=>u4.block x hx.lt (hx.ne ⟨_,_,(HH.out.next hb2).blk⟩ (by decide))
 have hF4:Fm (w3.setCell ⟨p,6,none⟩ (.bool true)) w1.heap.size R' (layL (aft ks D.L 0)):=hF.same (u4.block _ hF.mp.lt hmne) kt
 have kk:0<D.ks.length→(w3.setCell ⟨p,6,none⟩ (.bool true)).heap[kb]? = w.heap[kb]? := fun h0=>hu.block kb (HH.out.kt h0).lt (HH.out.kbp h0).1
 refine ⟨w1.heap.size,R',rfl,⟨j4,hF4.mp,hF4.ord,fun s hs _=>hF4.fil s hs,fun s hs x hx=>(hF4.fil s hs).blk hx,hF4.apart,hF4.nm,hF4.cnt,HH.out.kp.same kk,fun h0=>(HH.out.kt h0).same (kk h0),HH.out.kl,HH.out.fr,HH.out.ac,HH.out.ft⟩,fun x hx => ?_,hu⟩
 rcases hx with rfl | rfl | ⟨s,hs,hx⟩ | hx
 ·exact .inl rfl
 ·exact .inr (.inr hz)
 ·exact .inr (.inr (by have:=hlow s hs x hx; omega))
 ·exact .inr (.inl hx)
def actD (D:DV) (s:List UInt8) (f:FV):DV×Int :=
 let q:=metD { D with acts:=D.acts+1 }
 if q.2.1=1 then (q.1,171) else if q.2.1=2 then (q.1,172) else if q.2.1=4 then (downD q.1 q.2.2,170) else
  if q.2.1=3 then (dput q.1 s f,171) else if q.2.1=5 then (downD (dput q.1 s f) q.2.2,170) else (dput q.1 s f,0)
theorem metD_L (D:DV):(metD D).1.L=D.L∧(metD D).1.free=D.free∧(metD D).1.down=D.down∧(metD D).1.acts=D.acts∧((metD D).1.ks=D.ks∨(metD D).1.ks=[])∧((metD D).2.2=D.ks∨(metD D).2.2=[]):=by
 unfold metD
 split
 ·exact ⟨rfl,rfl,rfl,rfl,.inl rfl,.inr rfl⟩
 ·split
  ·exact ⟨rfl,rfl,rfl,rfl,.inl rfl,.inr rfl⟩
  ·exact ⟨rfl,rfl,rfl,rfl,.inr rfl,.inl rfl⟩
theorem metD_k {D:DV} (h:D.fk=0∨(1≤D.fk∧D.fk≤5∧1≤D.fa∧D.fa≤9223372036854775807)):(metD D).2.1=0∨(metD D).2.1=1∨(metD D).2.1=2∨(metD D).2.1=3∨(metD D).2.1=4∨(metD D).2.1=5:=by
 unfold metD
 split
 ·exact .inl rfl
 ·split
  ·exact .inl rfl
  ·show D.fk=0∨_
   have:D.fk=0∨D.fk=1∨D.fk=2∨D.fk=3∨D.fk=4∨D.fk=5:=by omega
   exact this
structure Do (w:World) (p m:Nat) (R:List UInt8→FR) (kb ko:Nat) (D:DV) (fn:Nat) (caps:Array Value) (s:List UInt8) (f:FV):Prop where
 call : ∀ (W:World) ka2 kc2 (D2:DV),Dk W p m R ka2 kb ko kc2 D2 none→D2.L=D.L→D2.free=D.free→Upo (fun x=>x=p) w W→Calls Tryz.prog fn caps W fun e w'=>e = .returned (.tuple #[]) ∧ ∃ R',Dk w' p m R' ka2 kb ko kc2 (dput D2 s f) none∧(∀ x,(∃ t∈keys (dput D2 s f).L,Blk (R' t) x)→(∃ t∈keys D.L,Blk (R t) x)∨W.heap.size≤x)∧Upo (fun x=>x=p∨x=m ∨ ∃ t∈keys D.L,Blk (R t) x) W w'
set_option maxRecDepth 100000 in
set_option maxHeartbeats 2000000 in
theorem act_any (w:World) (h:Dk w p m R ka kb ko kc D none) (hac:D.acts+1≤4611686018427387904) (fn:Nat) (caps:Array Value) (s:List UInt8) (f:FV) (hD:Do w p m R kb ko D fn caps s f) (hfn:fn=343∨fn=247∨fn=250) :
  Calls Tryz.prog 246 #[.pointer (some ⟨p,0,none⟩),.func (.func fn) #[] caps] w fun e w' => ∃ m' R' ka' kc',e = .returned (.int .i64 (actD D s f).2)∧Dk w' p m' R' ka' kb ko kc' (actD D s f).1 none∧(∀ x,Foot p m' R' kb (actD D s f).1 x→Foot p m R kb D x∨w.heap.size≤x)∧Upo (Foot p m R kb D) w w':=by
 obtain ⟨c0,c1,c2,c3,c4,c5,c6⟩:=h.cells
 have fz:=h.frz
 have e0:IntKind.i64.wrap ((D.acts:Int)+1)=((D.acts+1:Nat):Int):=by rw [IntKind.wrap_i64]; omega
 obtain ⟨ac,hac2⟩ : ∃ ac,D.acts+1=ac:=⟨_,rfl⟩
 rw [hac2] at e0
 obtain ⟨w1,hw1⟩ : ∃ W,w.setCell ⟨p,2,none⟩ (.int .i64 (ac:Int))=W:=⟨_,rfl⟩
 have HW1:Hid (w.setCell ⟨p,2,none⟩ (.int .i64 (ac:Int))=w1):=hw1
 have u1:Upo (fun x=>x=p) w w1:=by rw [← hw1]; exact (Upo.refl (fun x=>x=p) w).set _ _ _ (.inl rfl)
 have h1:Dk w1 p m R ka kb ko kc { D with acts:=ac } none:=by
  refine h.re (D' := { D with acts:=ac }) u1 rfl ?_ (.inl ⟨rfl,rfl⟩) h.fr (by show ac≤_; omega) h.ft
  rw [← hw1]
  exact heap_setCell_same w p 2 _ _ _ h.blk
 have HM:=met_any w1 h1
 obtain ⟨M,hM⟩ : ∃ M,metD { D with acts:=ac } = M:=⟨_,rfl⟩
 obtain ⟨m1,m2,m3,m4,m5,m6⟩:=metD_L { D with acts:=ac }
 have mk:=metD_k h1.ft
 rw [hM] at HM m1 m2 m3 m4 m5 m6 mk
 have hact:actD D s f=if M.2.1=1 then (M.1,171) else if M.2.1=2 then (M.1,172) else if M.2.1=4 then (downD M.1 M.2.2,170) else if M.2.1=3 then (dput M.1 s f,171) else if M.2.1=5 then (downD (dput M.1 s f) M.2.2,170) else (dput M.1 s f,0):=by
  simp only [actD,hac2,hM]
 obtain ⟨D2,K,ks⟩:=M
 simp only at HM m1 m2 m3 m4 m5 m6 mk hact
 have HH:Hid (Dk w p m R ka kb ko kc D none∧Upo (fun x=>x=p) w w1∧D2.L=D.L∧D2.free=D.free∧(D2.ks=D.ks∨D2.ks=[])∧(ks=D.ks∨ks=[])∧Do w p m R kb ko D fn caps s f):=⟨h,u1,m1,m2,m5,m6,hD⟩
 have HA:=hide hact
 simp only [fateV] at HM
 clear h u1 h1 hac hac2 hw1 hM m1 m2 m3 m4 m5 m6 hact hD
 go_enter Tryz.func246,Tryz.ntmps246
 go_upto_region 2 with (fail)
 rw [HW1.out]
 go_upto_region 3 with (go_at_call 329; with_reducible refine HM.mono ?_; rintro e w2 ⟨ka2,kc2,qa,qc,x,rfl,hD2,hk2,hu2⟩)
 obtain ⟨w3,hw3⟩ : ∃ W,w2.alloc (.cells #[.int .i64 x,.int .i64 K,.slice qa ks.length qc] 37)=W:=⟨_,rfl⟩
 have hb3:Below w2.heap.size w2 w3:=by rw [← hw3]; exact bal (Below.refl _ _) _
 have k3:w3.heap[w2.heap.size]? = some (.cells #[.int .i64 x,.int .i64 K,.slice qa ks.length qc] 37 (0,0)):=by rw [← hw3]; exact new1 _ _
 rw [hw3]
 obtain ⟨b0,b1,b2⟩:=three_at k3
 have HG:Hid (Dk w3 p m R ka2 kb ko kc2 D2 none∧RdL w3 qa kb ko ks∧Upo (fun x=>x=p) w w3∧ks.length≤9223372036854775807∧w3.heap[w2.heap.size]? = some (.cells #[.int .i64 x,.int .i64 K,.slice qa ks.length qc] 37 (0,0))∧w.heap.size≤w2.heap.size):=by
  refine ⟨hD2.next hb3,hk2.next hb3,(HH.out.2.1.trans hu2 (fun _ _ q=>q)).next hb3,?_,k3,Nat.le_trans HH.out.2.1.size hu2.size⟩
  have:=HH.out.1.kl
  rcases HH.out.2.2.2.2.2.1 with e | e
  ·rw [e]; omega
  ·rw [e]; simp
 have footD : ∀ x,Foot p m R kb D2 x→Foot p m R kb D x:=fun x hx=>by
  obtain ⟨_,_,e1,_,e2,_⟩:=HH.out
  rcases hx with e | e | ⟨t,ht,e⟩ | ⟨h0,e⟩
  ·exact .inl e
  ·exact .inr (.inl e)
  ·exact .inr (.inr (.inl ⟨t,by rw [← e1]; exact ht,e⟩))
  ·rcases e2 with q | q
   ·exact .inr (.inr (.inr ⟨by rw [← q]; exact h0,e⟩))
   ·rw [q] at h0; simp at h0
 have HFD:=hide footD
 have HPM:Hid (∀ W,Upo (fun x=>x=p) w W→Upo (Foot p m R kb D) w W):=fun W hW=>hW.mono (fun _ _ e => .inl e)
 clear hw3 hb3 k3 hD2 hk2 hu2 footD HM c0 c1 c2 c3 c4 c5 c6 fz e0 HW1
 by_cases k1:K=1
 ·subst k1
  have HE:Hid (actD D s f=(D2,171)):=by show _=_; rw [HA.out]; rfl
  clear mk HA hfn
  go_wp2
  go_ret
  rw [HE.out]
  exact ⟨m,R,ka2,kc2,rfl,HG.out.1,fun x hx => .inl (HFD.out x hx),HPM.out _ HG.out.2.2.1⟩
 by_cases k2:K=2
 ·subst k2
  have HE:Hid (actD D s f=(D2,172)):=by show _=_; rw [HA.out]; rfl
  clear mk HA hfn k1
  go_wp2
  go_ret
  rw [HE.out]
  exact ⟨m,R,ka2,kc2,rfl,HG.out.1,fun x hx => .inl (HFD.out x hx),HPM.out _ HG.out.2.2.1⟩
 by_cases k4:K=4
 ·subst k4
  have HE:Hid (actD D s f=(downD D2 ks,170)):=by show _=_; rw [HA.out]; rfl
  have HGo:=godown_any w3 HG.out.1 qa kb ko qc ks HG.out.2.1 HG.out.2.2.2.1
  clear mk HA hfn k1 k2
  go_wp2_with (go_at_call 330; with_reducible refine HGo.mono ?_; rintro e w4 ⟨m',R',rfl,hD4,hf4,hu4⟩)
  go_ret
  rw [HE.out]
  refine ⟨m',R',ka2,kc2,rfl,hD4,fun y hy => ?_,HPM.out _ (HG.out.2.2.1.trans hu4 (fun _ _ q=>q))⟩
  rcases hf4 y hy with e | e | e
  ·exact .inl (.inl e)
  ·exact .inl (HFD.out y (.inr (.inr (.inr e))))
  ·exact .inr (Nat.le_trans HG.out.2.2.1.size e)
 have e1:(K == 1)=false:=by simpa using k1
 have e2:(K == 2)=false:=by simpa using k2
 have e4:(K == 4)=false:=by simpa using k4
 have HA2:Hid (actD D s f=if K=3 then (dput D2 s f,171) else if K=5 then (downD (dput D2 s f) ks,170) else (dput D2 s f,0)):=by show _=_; rw [HA.out,if_neg k1,if_neg k2,if_neg k4]
 have HDo:=HH.out.2.2.2.2.2.2.call w3 ka2 kc2 D2 HG.out.1 HH.out.2.2.1 HH.out.2.2.2.1 HG.out.2.2.1
 have HDh:=hide HDo
 have HK:Hid (K=0∨K=3∨K=5):=by show _∨_; omega
 clear HA mk k1 k2 k4 HDo
 go_upto_region 10 with (fail)
 go_cut [28] from 29 to 29 (fun x wx => ∃ R',Dk wx p m R' ka2 kb ko kc2 (dput D2 s f) none∧(∀ x,(∃ t∈keys (dput D2 s f).L,Blk (R' t) x)→(∃ t∈keys D.L,Blk (R t) x)∨w3.heap.size≤x)∧Upo (fun x=>x=p∨x=m ∨ ∃ t∈keys D.L,Blk (R t) x) w3 wx)
 case first =>
  rcases hfn with rfl | rfl | rfl
  ·go_wp2_with (go_at_call 343; (with_reducible refine HDh.out.mono ?_); rintro e w4 ⟨rfl,R',hD4,hf4,hu4⟩)
   go_meet
   case rel=>exact ⟨R',hD4,hf4,hu4⟩
  ·go_wp2_with (go_at_call 247; (with_reducible refine HDh.out.mono ?_); rintro e w4 ⟨rfl,R',hD4,hf4,hu4⟩)
   go_meet
   case rel=>exact ⟨R',hD4,hf4,hu4⟩
  ·go_wp2_with (go_at_call 250; (with_reducible refine HDh.out.mono ?_); rintro e w4 ⟨rfl,R',hD4,hf4,hu4⟩)
   go_meet
   case rel=>exact ⟨R',hD4,hf4,hu4⟩
 case rest =>
  obtain ⟨R',hD4,hf4,hu4⟩:=hcut
  obtain ⟨w4,hw4⟩ : ∃ W,W=wc:=⟨_,rfl⟩
  subst hw4
  obtain ⟨h0,_,e1,e2,e3,e4',_⟩:=HH.out
  obtain ⟨g1,g2,g3,g4,g5,g6⟩:=HG.out
  have hfw : ∀ x,(x=p∨x=m ∨ ∃ t∈keys D.L,Blk (R t) x)→Foot p m R kb D x:=fun x hx=>hx.elim .inl (fun q=>q.elim (fun e => .inr (.inl e)) (fun e => .inr (.inr (.inl e))))
  have k4:=(hu4.block w2.heap.size (Array.getElem?_eq_some_iff.1 g5).1 (fun q=>by have:=h0.lt (hfw _ q); omega)).trans g5
  obtain ⟨b0,b1,b2⟩:=three_at k4
  have r4:RdL w4 qa kb ko ks:=g2.same fun hk0=>by
   have hk1:0<D.ks.length:=by
    rcases e4' with q | q
    ·rw [← q]; exact hk0
    ·rw [q] at hk0; simp at hk0
   refine hu4.block kb (g2.lt hk0) (fun q => ?_)
   have hkp:=h0.kbp hk1
   rcases q with q | q | ⟨t,ht,q⟩
   ·exact hkp.1 q
   ·exact hkp.2 q
   ·exact ((h0.low t ht kb q).ne (h0.kt hk1) (by decide)) rfl
  have hU4:Upo (Foot p m R kb D) w w4:=(HPM.out _ g3).trans hu4 (fun x _ q=>hfw x q)
  have hf5 : ∀ x,Foot p m R' kb (dput D2 s f) x→Foot p m R kb D x∨w.heap.size≤x:=fun y hy=>by
   rcases hy with q | q | q | ⟨q0,q⟩
   ·exact .inl (.inl q)
   ·exact .inl (.inr (.inl q))
   ·rcases hf4 y q with q | q
    ·exact .inl (.inr (.inr (.inl q)))
    ·exact .inr (Nat.le_trans g3.size q)
   ·exact .inl (HFD.out y (.inr (.inr (.inr ⟨q0,q⟩))))
  have HZ:Hid (Dk w4 p m R' ka2 kb ko kc2 (dput D2 s f) none∧RdL w4 qa kb ko ks∧Upo (Foot p m R kb D) w w4∧(∀ x,Foot p m R' kb (dput D2 s f) x→Foot p m R kb D x∨w.heap.size≤x)∧ks.length≤9223372036854775807∧p<w.heap.size):=⟨hD4,r4,hU4,hf5,g4,h0.lt (.inl rfl)⟩
  clear h0 e1 e2 e3 e4' g1 g2 g3 g4 g5 g6 hfw k4 r4 hU4 hf5 hD4 hf4 hu4 HG HFD HPM HDh hfn
  by_cases k3:K=3
  ·subst k3
   have HE:Hid (actD D s f=(dput D2 s f,171)):=by show _=_; rw [HA2.out]; rfl
   clear HA2 HK
   go_wp2
   go_ret
   rw [HE.out]
   exact ⟨m,R',ka2,kc2,rfl,HZ.out.1,HZ.out.2.2.2.1,HZ.out.2.2.1⟩
  by_cases k5:K=5
  ·subst k5
   have HE:Hid (actD D s f=(downD (dput D2 s f) ks,170)):=by show _=_; rw [HA2.out]; rfl
   have HGo:=godown_any w4 HZ.out.1 qa kb ko qc ks HZ.out.2.1 HZ.out.2.2.2.2.1
   clear HA2 HK k3
   go_wp2_with (go_at_call 330; with_reducible refine HGo.mono ?_; rintro e w5 ⟨m',R5,rfl,hD5,hf5,hu5⟩)
   go_ret
   rw [HE.out]
   refine ⟨m',R5,ka2,kc2,rfl,hD5,fun y hy => ?_,HZ.out.2.2.1.trans hu5 (fun x _ q => .inl q)⟩
   rcases hf5 y hy with q | q | q
   ·exact .inl (.inl q)
   ·exact HZ.out.2.2.2.1 y (.inr (.inr (.inr q)))
   ·exact .inr (Nat.le_trans HZ.out.2.2.1.size q)
  ·obtain rfl:K=0:=by have:=HK.out; omega
   have HE:Hid (actD D s f=(dput D2 s f,0)):=by show _=_; rw [HA2.out]; rfl
   clear HA2 HK k3 k5
   go_wp2
   go_ret
   rw [HE.out]
   exact ⟨m,R',ka2,kc2,rfl,HZ.out.1,HZ.out.2.2.2.1,HZ.out.2.2.1⟩
end
end Go.Proofs.YtoblgjledefdbaaGreatDoor.St
