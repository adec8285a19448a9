/- Own work. -/
import Derived.Lib.SliceRun
import Derived.WalkKit
import Derived.WalkSpells
import Derived.Outline
import Derived.KernelRfl
import Derived.Deep.LoopGhost
import Derived.Deep.RegionHeld3
import Derived.Deep.MidRow
import Derived.Deep.DrawnRows
import Derived.Deep.Light
import Derived.Deep.Cut
import Derived.Deep.CutRange
import Derived.Lib.LazyBuf
import Derived.Deep.RegionLaw
import Derived.Lib.BufferOwn
import Derived.Test.YtoblgjledefdbaaGreatDoorQf00
namespace Go.Proofs.YtoblgjledefdbaaGreatDoor
open Go.RowKit
def endL (blk:List Int) (u:Nat):List Int:=(blk.set u 128).take (u+1)++List.replicate (64 - (u+1)) 0
def lenAt (l:List Int) (b:Int):Nat→List Int
 | 0=>l
 | k+1=>(lenAt l b k).set (63 - k) (IntKind.u8.wrap (b / 2^(8 * k)))
def closeI (rs st blk:List Int) (n:Nat):List Int :=
 if 55<n % 64 then foldI rs (foldI rs st (endL blk (n % 64))) (lenAt (List.replicate 64 0) (IntKind.u64.wrap ((n:Int) * 8)) 8)
 else foldI rs st (lenAt (endL blk (n % 64)) (IntKind.u64.wrap ((n:Int) * 8)) 8)
theorem endL_len {blk:List Int} (h:blk.length=64) {u:Nat} (hu:u<64):(endL blk u).length=64:=by
 simp [endL,h]; omega
theorem closeI_len (rs st blk:List Int) (n:Nat):(closeI rs st blk n).length=8:=by
 unfold closeI; split <;> rfl
structure Hs (w:World) (p:Nat) (st blk:List Int) (n:Nat):Prop where
 stl:st.length=8
 blkl:blk.length=64
 st:w.rangeAt p 0 (cW st)
 blk:w.rangeAt p 8 (cB blk)
 len:w.cell? ⟨p,72,none⟩=some (.int .u64 n)
 there:w.there p 0 73
theorem Hs.lt {w:World} {p:Nat} {st blk:List Int} {n:Nat} (h:Hs w p st blk n):p<w.heap.size:=World.block_lt_of_cell? _ _ h.len
theorem Hs.later {w w':World} {p B:Nat} {st blk:List Int} {n:Nat} (h:Hs w p st blk n) (hb:Below B w w') (hp:p<B):Hs w' p st blk n :=
 ⟨h.stl,h.blkl,range_below hb hp h.st,range_below hb hp h.blk,by rw [hb.cell (p:=⟨p,72,none⟩) hp]; exact h.len,there_below hb hp h.there⟩
theorem range_part {w:World} {b:Nat} {cs:List Value} (h:w.rangeAt b 0 cs) (k:Nat) (vs:List Value) (hk:k+vs.length=cs.length) (ht:w.there b k vs.length) :
  (w.setCells b k vs).rangeAt b 0 (cs.take k++vs):=fun j u hu=>by
 rw [Nat.zero_add]
 by_cases hj:j<k
 ·rw [List.getElem?_append_left (by simp; omega),List.getElem?_take,if_pos hj] at hu
  rw [World.cell?_setCells_out b vs k w ⟨b,j,none⟩ (fun _ _=>Or.inl hj)]
  have:=h j u hu
  rwa [Nat.zero_add] at this
 ·rw [List.getElem?_append_right (by simp; omega)] at hu
  have hlen:(cs.take k).length=k:=by simp; omega
  rw [hlen] at hu
  have hlt:j - k<vs.length:=(List.getElem?_eq_some_iff.1 hu).1
  have:=World.cell?_setCells_in b vs k w (fun i hi=>(ht i hi).1) (j - k) hlt
  rw [show k+(j - k)=j by omega] at this
  rw [this,← hu,List.getElem?_eq_getElem hlt]
structure Cl (w wc:World) (st last:List Int) (bs bl:Nat):Prop where
 stl:st.length=8
 lastl:last.length=64
 below:Below w.heap.size w wc
 hbs:w.heap.size+1≤bs
 hbl:w.heap.size+1≤bl
 ne:bs≠bl
 st:wc.rangeAt bs 0 (cW st)
 stt:wc.there bs 0 8
 last:wc.rangeAt bl 0 (cB last)
 lastt:wc.there bl 0 64
 res:wc.there w.heap.size 0 8
theorem Cl.one (w:World) (st blk:List Int) (hs:st.length=8) (hb:blk.length=64) (z:List Int) (hz:z.length=8) (z2:List Int) (hz2:z2.length=64) (t1 t2 t3:TypeId) :
  Cl w ((((w.alloc (.cells (cW z).toArray t1)).alloc (.cells (cW st).toArray t2)).alloc (.cells (cB z2).toArray t3)).drew.setCells (w.heap.size+1+1) 0 (cB blk)) st blk (w.heap.size+1) (w.heap.size+1+1):=by
 have r1:=range_new (w.alloc (.cells (cW z).toArray t1)) (cW st) t2
 have q1:=there_new (w.alloc (.cells (cW z).toArray t1)) (cW st).toArray t2 8 (by simp [cW_len,hs])
 have q2:=there_new ((w.alloc (.cells (cW z).toArray t1)).alloc (.cells (cW st).toArray t2)) (cB z2).toArray t3 64 (by simp [cB_len,hz2])
 have q0:=there_new w (cW z).toArray t1 8 (by simp [cW_len,hz])
 simp only [World.size_alloc] at r1 q1 q2 q0
 refine ⟨hs,hb,below_setCells ((((Below.refl _ _).alloc (Nat.le_refl _) _).alloc (by simp) _).alloc (by simp; omega) _).drew (by omega) _ _,by omega,by omega,by omega,?_,?_,?_,?_,?_⟩
 ·exact World.rangeAt_setCells_apart (by rw [World.rangeAt_drew]; exact World.rangeAt_alloc r1 _) _ _ _ (Or.inl (by omega))
 ·exact World.there_setCells (by rw [World.there_drew]; exact World.there_alloc q1 _) _ _ _
 ·exact World.rangeAt_setCells_same _ _ _ _ (by rw [World.there_drew,cB_len,hb]; exact q2)
 ·exact World.there_setCells (by rw [World.there_drew]; exact q2) _ _ _
 ·exact World.there_setCells (by rw [World.there_drew]; exact World.there_alloc (World.there_alloc q0 _) _) _ _ _
theorem Cl.two (w:World) (st blk:List Int) (hs:st.length=8) (hb:blk.length=64) (z:List Int) (hz:z.length=8) (z2:List Int) (hz2:z2.length=64) (t1 t2 t3:TypeId) :
  Cl w ((((w.alloc (.cells (cW z).toArray t1)).alloc (.cells (cB z2).toArray t3)).alloc (.cells (cW st).toArray t2)).drew.setCells (w.heap.size+1) 0 (cB blk)) st blk (w.heap.size+1+1) (w.heap.size+1):=by
 have r1:=range_new ((w.alloc (.cells (cW z).toArray t1)).alloc (.cells (cB z2).toArray t3)) (cW st) t2
 have q1:=there_new ((w.alloc (.cells (cW z).toArray t1)).alloc (.cells (cB z2).toArray t3)) (cW st).toArray t2 8 (by simp [cW_len,hs])
 have q2:=there_new (w.alloc (.cells (cW z).toArray t1)) (cB z2).toArray t3 64 (by simp [cB_len,hz2])
 have q0:=there_new w (cW z).toArray t1 8 (by simp [cW_len,hz])
 simp only [World.size_alloc] at r1 q1 q2 q0
 refine ⟨hs,hb,below_setCells ((((Below.refl _ _).alloc (Nat.le_refl _) _).alloc (by simp) _).alloc (by simp; omega) _).drew (by omega) _ _,by omega,by omega,by omega,?_,?_,?_,?_,?_⟩
 ·exact World.rangeAt_setCells_apart (by rw [World.rangeAt_drew]; exact r1) _ _ _ (Or.inl (by omega))
 ·exact World.there_setCells (by rw [World.there_drew]; exact q1) _ _ _
 ·exact World.rangeAt_setCells_same _ _ _ _ (by rw [World.there_drew,cB_len,hb]; exact World.there_alloc q2 _)
 ·exact World.there_setCells (by rw [World.there_drew]; exact World.there_alloc q2 _) _ _ _
 ·exact World.there_setCells (by rw [World.there_drew]; exact World.there_alloc (World.there_alloc q0 _) _) _ _ _
theorem Cl.set {w wc:World} {st last:List Int} {bs bl:Nat} (h:Cl w wc st last bs bl) (i:Nat) (v:Int):Cl w (wc.setCell ⟨bl,i,none⟩ (.int .u8 v)) st (last.set i v) bs bl:=by
 have hbl:=h.hbl
 refine ⟨h.stl,by rw [List.length_set]; exact h.lastl,h.below.setCell (by show w.heap.size≤bl; omega) _,h.hbs,h.hbl,h.ne,range_other h.st (Ne.symm h.ne) _,there_set h.stt _ _,?_,there_set h.lastt _ _,there_set h.res _ _⟩
 have:=range_set h.last i (.int .u8 v)
 rwa [Nat.zero_add,cB_set] at this
theorem Cl.rest {w wc:World} {st last:List Int} {bs bl:Nat} (h:Cl w wc st last bs bl) (k:Nat) (hk:k≤64) :
  Cl w (wc.setCells bl k (List.replicate (64 - k) (.int .u8 0))) st (last.take k++List.replicate (64 - k) 0) bs bl:=by
 have hbl:=h.hbl
 have hl:=h.lastl
 have e:(List.replicate (64 - k) (Value.int .u8 0))=cB (List.replicate (64 - k) 0):=by simp [cB]
 refine ⟨h.stl,by simp [hl]; omega,below_setCells h.below (by omega) _ _,h.hbs,h.hbl,h.ne,World.rangeAt_setCells_apart h.st _ _ _ (Or.inl h.ne),World.there_setCells h.stt _ _ _,?_,World.there_setCells h.lastt _ _ _,World.there_setCells h.res _ _ _⟩
 have:=range_part h.last k (List.replicate (64 - k) (Value.int .u8 0)) (by simp [cB_len,hl]; omega) (fun j hj=>by
  have:=h.lastt (k+j) (by simp at hj; omega)
  rwa [Nat.zero_add] at this)
 rw [e] at this
 rw [e]
 simpa [cB,List.map_take] using this
theorem Cl.later {w wc w':World} {st last:List Int} {bs bl:Nat} (h:Cl w wc st last bs bl) (hb:Below wc.heap.size wc w'):Cl w w' st last bs bl:=by
 have h1:=there_lt h.stt (by decide)
 have h2:=there_lt h.lastt (by decide)
 have h3:=there_lt h.res (by decide)
 exact ⟨h.stl,h.lastl,h.below.trans (hb.mono (by omega)),h.hbs,h.hbl,h.ne,range_below hb h1 h.st,there_below hb h1 h.stt,range_below hb h2 h.last,there_below hb h2 h.lastt,there_below hb h3 h.res⟩
theorem Cl.storeSt {w wc:World} {st last:List Int} {bs bl:Nat} (h:Cl w wc st last bs bl) (st':List Int) (hs:st'.length=8):Cl w (wc.setCells bs 0 (cW st')) st' last bs bl:=by
 have hbs:=h.hbs
 exact ⟨hs,h.lastl,below_setCells h.below (by omega) _ _,h.hbs,h.hbl,h.ne,World.rangeAt_setCells_same _ _ _ _ (by rw [cW_len,hs]; exact h.stt),World.there_setCells h.stt _ _ _,World.rangeAt_setCells_apart h.last _ _ _ (Or.inl (Ne.symm h.ne)),World.there_setCells h.lastt _ _ _,World.there_setCells h.res _ _ _⟩
theorem Cl.storeLast {w wc:World} {st last:List Int} {bs bl:Nat} (h:Cl w wc st last bs bl) (l':List Int) (hs:l'.length=64):Cl w (wc.setCells bl 0 (cB l')) st l' bs bl:=by
 have hbl:=h.hbl
 exact ⟨h.stl,hs,below_setCells h.below (by omega) _ _,h.hbs,h.hbl,h.ne,World.rangeAt_setCells_apart h.st _ _ _ (Or.inl h.ne),World.there_setCells h.stt _ _ _,World.rangeAt_setCells_same _ _ _ _ (by rw [cB_len,hs]; exact h.lastt),World.there_setCells h.lastt _ _ _,World.there_setCells h.res _ _ _⟩
end Go.Proofs.YtoblgjledefdbaaGreatDoor
namespace Go.Proofs.YtoblgjledefdbaaGreatDoor
open Go.RowKit
attribute [local go_sem ↓] Go.wp_at_zero Go.wp_at_succ
theorem size5 (w:World):(Go.sizeOf 5).run Tryz.prog w = .ok 1 w:=by kernel_rfl
theorem zero5 (w:World):(zeroValue 5).run Tryz.prog w = .ok (.int .u8 0) w:=by kernel_rfl
theorem slice_tail (b o v:Nat) (m:Nat) (hm:v+m=64) (h0:0<m) (w:World) :
  (Instr.sliceAt 184 (.pointer (some ⟨b,o,none⟩)) (some (.int .i64 (v:Int))) none none).run Tryz.prog w = .ok (.slice (some ⟨b,o+v,none⟩) m m) w:=by
 have h:=run_sliceAt_array_l (P:=Tryz.prog) w 184 ⟨b,o,none⟩ (by kernel_rfl) .i64 (v:Int) (Int.natCast_nonneg _) (by
  have e:Tryz.prog.arrayLen 184=64:=by kernel_rfl
  rw [e]; omega)
 have e:Tryz.prog.arrayLen 184=64:=by kernel_rfl
 have e2:Tryz.prog.elem 184=5:=by kernel_rfl
 rw [h,e,e2,size5]
 have e3:64 - v=m:=by omega
 have e4 : ¬ 64=v:=by omega
 simp [slicedAt,e3,e4,Addr.add_mid]
theorem clear_some (w:World) (b o m:Nat) (h0:0<m) (ht:w.there b o m) :
  (Builtin.clear_ #[127] 0 #[.slice (some ⟨b,o,none⟩) m m]).run Tryz.prog w = .ok (.tuple #[]) (w.setCells b o (List.replicate m (.int .u8 0))) :=
 Lib.run_clear_slice w 127 5 0 (.int .u8 0) Tryz.underlying127 zero5 rfl rfl b o m m h0 (fun j hj=>(ht j hj).1) (fun j hj=>(ht j hj).2)
theorem clear_none (w:World) (a:Option Addr):(Builtin.clear_ #[127] 0 #[.slice a 0 0]).run Tryz.prog w = .ok (.tuple #[]) w:=by
 cases a <;> simp [Builtin.clear_,run_underlying Tryz.underlying127]
theorem waiting_u (n u:Nat) (h:Hid (n % 64=u)) (w:World) (b:Nat) (hc:w.cell? ⟨b,72,none⟩=some (.int .u64 n)) :
  Calls Tryz.prog 403 #[.pointer (some ⟨b,0,none⟩)] w fun e w'=>e = .returned (.int .i64 (u:Int))∧w'=w:=by
 refine (waiting_any n w b (Int.natCast_nonneg _) hc).mono ?_
 rintro e w' ⟨rfl,rfl⟩
 have h:=h.out
 exact ⟨by rw [show ((n:Int) % 64)=(u:Int) by omega],rfl⟩
set_option maxHeartbeats 2000000 in
set_option maxRecDepth 100000 in
theorem closed_any (w:World) (p:Nat) (st blk:List Int) (n:Nat) (hh:Hs w p st blk n) (rs:List Int) (hrl:rs.length=64) (hr:w.rangeAt 3 0 (cW rs)) :
    Calls Tryz.prog 405 #[.pointer (some ⟨p,0,none⟩)] w fun e w'=>e = .returned (.agg (cW (closeI rs st blk n)).toArray)∧Below w.heap.size w w':=by
  obtain ⟨s0,s1,s2,s3,s4,s5,s6,s7,rfl⟩:=list8 hh.stl
  have hp:p<w.heap.size:=World.block_lt_of_cell? _ _ hh.len
  have hl:=hh.blkl
  have h1w:3<w.heap.size:=range_lt hr (by intro h; have:=congrArg List.length h; simp [cW_len,hrl] at this)
  have c0:w.cell? ⟨p,0,none⟩=some (.int .u32 s0):=cell_cW0 hh.st (i:=0) (by simp)
  have c1:w.cell? ⟨p,1,none⟩=some (.int .u32 s1):=cell_cW0 hh.st (i:=1) (by simp)
  have c2:w.cell? ⟨p,2,none⟩=some (.int .u32 s2):=cell_cW0 hh.st (i:=2) (by simp)
  have c3:w.cell? ⟨p,3,none⟩=some (.int .u32 s3):=cell_cW0 hh.st (i:=3) (by simp)
  have c4:w.cell? ⟨p,4,none⟩=some (.int .u32 s4):=cell_cW0 hh.st (i:=4) (by simp)
  have c5:w.cell? ⟨p,5,none⟩=some (.int .u32 s5):=cell_cW0 hh.st (i:=5) (by simp)
  have c6:w.cell? ⟨p,6,none⟩=some (.int .u32 s6):=cell_cW0 hh.st (i:=6) (by simp)
  have c7:w.cell? ⟨p,7,none⟩=some (.int .u32 s7):=cell_cW0 hh.st (i:=7) (by simp)
  have c72:=hh.len
  have hrb:=hh.blk
  have hu:=Tryz.underlying184
  obtain ⟨u,hun⟩ : ∃ u:Nat,n % 64=u:=⟨_,rfl⟩
  have hu64:Hid (n % 64=u):=hun
  clear hun
  have hi:(Tryz.prog.info? 184).map (·.size)=some (cB blk).length:=by rw [cB_len,hl]; exact size35
  have hl':(cB blk).length=64:=by rw [cB_len,hl]
  have h1:=cB_one blk
  have hA : ∀ (r o:Obj),(((w.alloc r).alloc o).alloc (.cells #[.int .u8 0,.int .u8 0,.int .u8 0,.int .u8 0,.int .u8 0,.int .u8 0,.int .u8 0,.int .u8 0,.int .u8 0,.int .u8 0,.int .u8 0,.int .u8 0,.int .u8 0,.int .u8 0,.int .u8 0,.int .u8 0,.int .u8 0,.int .u8 0,.int .u8 0,.int .u8 0,.int .u8 0,.int .u8 0,.int .u8 0,.int .u8 0,.int .u8 0,.int .u8 0,.int .u8 0,.int .u8 0,.int .u8 0,.int .u8 0,.int .u8 0,.int .u8 0,.int .u8 0,.int .u8 0,.int .u8 0,.int .u8 0,.int .u8 0,.int .u8 0,.int .u8 0,.int .u8 0,.int .u8 0,.int .u8 0,.int .u8 0,.int .u8 0,.int .u8 0,.int .u8 0,.int .u8 0,.int .u8 0,.int .u8 0,.int .u8 0,.int .u8 0,.int .u8 0,.int .u8 0,.int .u8 0,.int .u8 0,.int .u8 0,.int .u8 0,.int .u8 0,.int .u8 0,.int .u8 0,.int .u8 0,.int .u8 0,.int .u8 0,.int .u8 0] 184)).drew.there (w.heap.size+1+1) 0 64:=fun r o=>by
    have q2:=there_new ((w.alloc r).alloc o) (cB (List.replicate 64 0)).toArray 184 64 (by simp [cB_len])
    simp only [World.size_alloc] at q2
    rw [World.there_drew]; exact q2
  have hB : ∀ (r o:Obj),(((w.alloc r).alloc (.cells #[.int .u8 0,.int .u8 0,.int .u8 0,.int .u8 0,.int .u8 0,.int .u8 0,.int .u8 0,.int .u8 0,.int .u8 0,.int .u8 0,.int .u8 0,.int .u8 0,.int .u8 0,.int .u8 0,.int .u8 0,.int .u8 0,.int .u8 0,.int .u8 0,.int .u8 0,.int .u8 0,.int .u8 0,.int .u8 0,.int .u8 0,.int .u8 0,.int .u8 0,.int .u8 0,.int .u8 0,.int .u8 0,.int .u8 0,.int .u8 0,.int .u8 0,.int .u8 0,.int .u8 0,.int .u8 0,.int .u8 0,.int .u8 0,.int .u8 0,.int .u8 0,.int .u8 0,.int .u8 0,.int .u8 0,.int .u8 0,.int .u8 0,.int .u8 0,.int .u8 0,.int .u8 0,.int .u8 0,.int .u8 0,.int .u8 0,.int .u8 0,.int .u8 0,.int .u8 0,.int .u8 0,.int .u8 0,.int .u8 0,.int .u8 0,.int .u8 0,.int .u8 0,.int .u8 0,.int .u8 0,.int .u8 0,.int .u8 0,.int .u8 0,.int .u8 0] 184)).alloc o).drew.there (w.heap.size+1) 0 64:=fun r o=>by
    have q2:=there_new (w.alloc r) (cB (List.replicate 64 0)).toArray 184 64 (by simp [cB_len])
    simp only [World.size_alloc] at q2
    rw [World.there_drew]; exact World.there_alloc q2 _
  have HK:Hid (∀ w',Below w.heap.size w w'→(w'.cell? ⟨p,0,none⟩=some (.int .u32 s0)∧w'.cell? ⟨p,1,none⟩=some (.int .u32 s1)∧w'.cell? ⟨p,2,none⟩=some (.int .u32 s2)∧w'.cell? ⟨p,3,none⟩=some (.int .u32 s3)∧w'.cell? ⟨p,4,none⟩=some (.int .u32 s4)∧w'.cell? ⟨p,5,none⟩=some (.int .u32 s5)∧w'.cell? ⟨p,6,none⟩=some (.int .u32 s6)∧w'.cell? ⟨p,7,none⟩=some (.int .u32 s7)∧w'.cell? ⟨p,72,none⟩=some (.int .u64 n)∧w'.rangeAt p 8 (cB blk)∧Below w.heap.size w w')):=fun w' hb=>by
    refine ⟨?_,?_,?_,?_,?_,?_,?_,?_,?_,range_below hb hp hrb,hb⟩ <;> (rw [hb.cell hp]; assumption)
  have HH:Hid (Hs w p [s0,s1,s2,s3,s4,s5,s6,s7] blk n):=hh
  clear hh
  go_enter Tryz.func405,Tryz.ntmps405
  go_wp2
  go_cut [3,4,5] from 8 (fun q3 q4 q5 wc => ∃ bs bl:Nat,q3 = .pointer (some ⟨bs,0,none⟩)∧q4 = .pointer (some ⟨bl,0,none⟩)∧q5 = .int .i64 (u:Int)∧Cl w wc [s0,s1,s2,s3,s4,s5,s6,s7] blk bs bl)
  case first =>
   go_region_held3 (fun w'=>w'.cell? ⟨p,0,none⟩=some (.int .u32 s0)∧w'.cell? ⟨p,1,none⟩=some (.int .u32 s1)∧w'.cell? ⟨p,2,none⟩=some (.int .u32 s2)∧w'.cell? ⟨p,3,none⟩=some (.int .u32 s3)∧w'.cell? ⟨p,4,none⟩=some (.int .u32 s4)∧w'.cell? ⟨p,5,none⟩=some (.int .u32 s5)∧w'.cell? ⟨p,6,none⟩=some (.int .u32 s6)∧w'.cell? ⟨p,7,none⟩=some (.int .u32 s7)∧w'.cell? ⟨p,72,none⟩=some (.int .u64 n)∧w'.rangeAt p 8 (cB blk)∧Below w.heap.size w w')
    ((refine HK.out _ ?_; repeat (first | exact Below.refl _ _ | assumption | apply Below.drew | (refine Below.alloc ?_ (by simp <;> omega) _) | (refine below_setCells ?_ (by omega) _ _)))) (first | (go_at_call 403; refine (waiting_u n u hu64 _ p ?_).mono ?_; (simp [*]); rintro e w' ⟨rfl,rfl⟩))
   all_goals
     go_wp2
     go_meet
     case rel =>
      go_light
      first
        | exact ⟨_,_,rfl,rfl,rfl,Cl.one w [s0,s1,s2,s3,s4,s5,s6,s7] blk rfl hl [0,0,0,0,0,0,0,0] rfl (List.replicate 64 0) rfl 346 346 184⟩
        | exact ⟨_,_,rfl,rfl,rfl,Cl.two w [s0,s1,s2,s3,s4,s5,s6,s7] blk rfl hl [0,0,0,0,0,0,0,0] rfl (List.replicate 64 0) rfl 346 346 184⟩
  case rest =>
   obtain ⟨bs,bl,rfl,rfl,rfl,hcl⟩:=hcut
   clear hA hB HK c0 c1 c2 c3 c4 c5 c6 c7
   have hu0:(0:Int)≤(u:Int):=Int.natCast_nonneg _
   have hu1:(u:Int)<64:=by have:=hu64.out; omega
   have cu:wc.cell? ⟨bl,u,none⟩=some (.int .u8 (blk.getD u 0)):=cell_cB0 hcl.last (by omega)
   have fu:wc.frozen? ⟨bl,u,none⟩=false:=by have:=(hcl.lastt u (by omega)).2; rwa [Nat.zero_add] at this
   have HC:Hid (Cl w (wc.setCell ⟨bl,u,none⟩ (.int .u8 128)) [s0,s1,s2,s3,s4,s5,s6,s7] (blk.set u 128) bs bl):=hcl.set u 128
   clear hcl
   obtain ⟨v,hv⟩ : ∃ v:Nat,u+1=v:=⟨_,rfl⟩
   have ev:(u:Int)+1=(v:Int):=by omega
   have HV:Hid (u+1=v):=hv
   clear hv
   go_upto_region 3 with (fail)
   go_cut [] from 18 (fun wx=>Cl w wx [s0,s1,s2,s3,s4,s5,s6,s7] (endL blk u) bs bl)
   case first =>
    by_cases h63:v=64
    · subst h63
      have hclr:(Builtin.clear_ #[127] 0 #[.slice (some ⟨bl,0,none⟩) 0 0]).run Tryz.prog (wc.setCell ⟨bl,u,none⟩ (.int .u8 128)) = .ok (.tuple #[]) (wc.setCell ⟨bl,u,none⟩ (.int .u8 128)):=clear_none _ _
      go_wp2
      go_meet
      case rel =>
        go_light
        have h1:=HC.out
        have h2:=HV.out
        have e:endL blk u=blk.set u 128:=by
          unfold endL; rw [List.take_of_length_le (by simp; omega)]; simp; omega
        rw [e]; exact h1
    · obtain ⟨m,hm⟩ : ∃ m:Nat,v+m=64:=⟨64 - v,by have:=HV.out; omega⟩
      have hm0:0<m:=by omega
      have hsl:=fun w'=>slice_tail bl 0 v m hm hm0 w'
      have hclr:(Builtin.clear_ #[127] 0 #[.slice (some ⟨bl,v,none⟩) m m]).run Tryz.prog (wc.setCell ⟨bl,u,none⟩ (.int .u8 128)) = .ok (.tuple #[]) ((wc.setCell ⟨bl,u,none⟩ (.int .u8 128)).setCells bl v (List.replicate m (.int .u8 0))):=clear_some _ _ _ _ hm0 (fun j hj=>by
        have:=HC.out.lastt (v+j) (by omega)
        rwa [Nat.zero_add] at this)
      simp only [Nat.zero_add] at hsl
      have HM:Hid (v+m=64):=hm
      clear hm
      go_wp2
      go_meet
      case rel =>
        go_light
        have h1:=HC.out.rest v (by have:=HM.out; omega)
        have h2:=HV.out
        have e:64 - v=m:=by have:=HM.out; omega
        rw [e] at h1
        unfold endL
        rw [h2,e]; exact h1
   case rest =>
    have hcl:=hcut
    clear hcut HC cu fu
    have HB:Hid (∃ b8,b8=IntKind.u64.wrap ((n:Int) * 8)):=⟨_,rfl⟩
    go_upto_if 26 with (fail)
    go_cut [] from 18 (fun wx => ∃ st2 last2:List Int,Hid (closeI rs [s0,s1,s2,s3,s4,s5,s6,s7] blk n=foldI rs st2 (lenAt last2 (IntKind.u64.wrap ((n:Int) * 8)) 8))∧Cl w wx st2 last2 bs bl)
    case first =>
      by_cases h55:v+8≤64
      · have h55' : ¬ ((64:Int)<(v:Int)+8):=by omega
        go_wp2
        go_meet
        case rel =>
          go_light
          refine ⟨_,_,?_,hcl⟩
          have h2:=HV.out
          have h3:=hu64.out
          show _=_
          unfold closeI
          rw [if_neg (by omega),h3]
      · have h55':(64:Int)<(v:Int)+8:=by omega
        have hi34:(Tryz.prog.info? 346).map (·.size)=some (cW [s0,s1,s2,s3,s4,s5,s6,s7]).length:=size34
        have hle:=endL_len hl (show u<64 by omega)
        have hi35:(Tryz.prog.info? 184).map (·.size)=some (cB (endL blk u)).length:=by rw [cB_len,hle]; exact size35
        have hrc:wc.rangeAt 3 0 (cW rs):=range_below hcl.below h1w hr
        have hst:=hcl.st
        have hla:=hcl.last
        have HL:Hid (∀ w',Below wc.heap.size wc w'→Cl w w' [s0,s1,s2,s3,s4,s5,s6,s7] (endL blk u) bs bl):=fun w' hb=>hcl.later hb
        clear hcl
        have hfo:=fun w'=>folded_any [s0,s1,s2,s3,s4,s5,s6,s7] rfl (endL blk u) hle w' rs hrl
        generalize hF:foldI rs [s0,s1,s2,s3,s4,s5,s6,s7] (endL blk u)=F at hfo
        have hFl:F.length=8:=by rw [← hF]; rfl
        have hiF:(Tryz.prog.info? 346).map (·.size)=some (cW F).toArray.size:=by rw [List.size_toArray,cW_len,hFl]; exact size34
        have HF:Hid (foldI rs [s0,s1,s2,s3,s4,s5,s6,s7] (endL blk u)=F):=hF
        clear hF
        go_wp2_with (first | (refine wpList_load_mid rfl 346 _ rfl bs 0 rfl _ _ hst Tryz.underlying346 rfl hi34 ?_) | (refine wpList_load_mid rfl 184 _ rfl bl 0 rfl _ _ hla Tryz.underlying184 rfl hi35 ?_) | (go_at_call 404; refine (hfo _ hrc).mono ?_; rintro e w' ⟨rfl,hbw⟩) | (refine wpList_store_mid rfl 346 _ _ rfl bs 0 (cW F).toArray rfl rfl ?_ hiF (all_oneCell_toArray (cW_one F)) ?_; exact (by rw [List.size_toArray,cW_len,hFl]; exact (HL.out _ hbw).stt)) | (refine wpList_store_mid rfl 184 _ _ rfl bl 0 (cB (List.replicate 64 0)).toArray rfl rfl ?_ size35 (all_oneCell_toArray (cB_one _)) ?_; exact ((HL.out _ hbw).storeSt F hFl).lastt))
        go_simp
        go_meet
        case rel =>
          go_light
          refine ⟨_,_,?_,((HL.out _ hbw).storeSt F hFl).storeLast _ rfl⟩
          have h2:=HV.out
          have h3:=hu64.out
          show _=_
          unfold closeI
          rw [if_pos (by omega),h3,HF.out]
          rfl
    case rest =>
      obtain ⟨st2,last2,HC,hcl⟩:=hcut
      have c72':wc.cell? ⟨p,72,none⟩=some (.int .u64 n):=by rw [hcl.below.cell (p:=⟨p,72,none⟩) hp]; exact c72
      go_wp2
      generalize hb8:IntKind.u64.wrap ((n:Int) * 8)=b8 at *
      clear hb8
      go_loopg [36] 8 (fun g i wr => ∃ k:Nat,k≤8∧g=8 - k∧i = .int .i64 k∧Cl w wr st2 (lenAt last2 b8 k) bs bl)
      case atStart =>
        go_light
        exact ⟨0,Nat.zero_le _,rfl,rfl,hcl⟩
      case round =>
        clear hcl c72'
        obtain ⟨k,hk,rfl,rfl,hcl⟩:=hrel
        by_cases hlt:k<8
        · have hk0:(0:Int)≤(k:Int):=Int.natCast_nonneg _
          have hk8:(k:Int)<8:=by omega
          obtain ⟨m,hm⟩ : ∃ m:Nat,k+m=63:=⟨63 - k,by omega⟩
          obtain ⟨m8,hm8⟩ : ∃ m8:Nat,8 * k=m8:=⟨_,rfl⟩
          have em:(63:Int) - (k:Int)=(m:Int):=by omega
          have em8:(8:Int) * (k:Int)=(m8:Int):=by omega
          have bm0:(0:Int)≤(m:Int):=Int.natCast_nonneg _
          have bm1:(m:Int)<64:=by omega
          have b80:(0:Int)≤(m8:Int):=Int.natCast_nonneg _
          have b81:(m8:Int)<64:=by omega
          have cm:wr.cell? ⟨bl,m,none⟩=some (.int .u8 ((lenAt last2 b8 k).getD m 0)):=cell_cB0 hcl.last (by have:=hcl.lastl; omega)
          have fm:wr.frozen? ⟨bl,m,none⟩=false:=by have:=(hcl.lastt m (by omega)).2; rwa [Nat.zero_add] at this
          have HF:Hid (∀ x,Cl w (wr.setCell ⟨bl,m,none⟩ (.int .u8 x)) st2 ((lenAt last2 b8 k).set m x) bs bl):=fun x=>hcl.set m x
          have HV:Hid (lenAt last2 b8 (k+1)=(lenAt last2 b8 k).set m (IntKind.u8.wrap (b8 / 2^m8))):=by
            show _=_
            rw [lenAt,← hm8,show 63 - k=m by omega]
          clear hcl hm hm8
          generalize (lenAt last2 b8 k).getD m 0=z at *
          go_wp2
          go_roundg (8 - (k+1))
          case rel =>
            go_light
            refine ⟨k+1,by omega,rfl,by go_num,?_⟩
            rw [HV.out]
            exact HF.out _
          case measure=>go_light; omega
        · obtain rfl:k=8:=by omega
          clear hk hlt
          have hi34:(Tryz.prog.info? 346).map (·.size)=some (cW st2).length:=by rw [cW_len,hcl.stl]; exact size34
          have hi35:(Tryz.prog.info? 184).map (·.size)=some (cB (lenAt last2 b8 8)).length:=by rw [cB_len,hcl.lastl]; exact size35
          have hrc:wr.rangeAt 3 0 (cW rs):=range_below hcl.below h1w hr
          have hst:=hcl.st
          have hla:=hcl.last
          have HL:Hid (∀ w',Below wr.heap.size wr w'→Cl w w' st2 (lenAt last2 b8 8) bs bl):=fun w' hb=>hcl.later hb
          have hfo:=fun w'=>folded_any st2 hcl.stl (lenAt last2 b8 8) hcl.lastl w' rs hrl
          clear hcl
          rw [← HC.out] at hfo
          have hFl:=closeI_len rs [s0,s1,s2,s3,s4,s5,s6,s7] blk n
          generalize hE:closeI rs [s0,s1,s2,s3,s4,s5,s6,s7] blk n=F at hfo hFl
          have hiF:(Tryz.prog.info? 346).map (·.size)=some (cW F).toArray.size:=by rw [List.size_toArray,cW_len,hFl]; exact size34
          have hszF:(cW F).toArray.size=8:=by simp [cW_len,hFl]
          have hiF2:(Tryz.prog.info? 346).map (·.size)=some (cW F).length:=by rw [cW_len,hFl]; exact size34
          have HE:Hid (closeI rs [s0,s1,s2,s3,s4,s5,s6,s7] blk n=F):=hE
          clear hE HC
          go_wp2_with (first | (refine wpList_load_mid rfl 346 _ rfl bs 0 rfl _ _ hst Tryz.underlying346 rfl hi34 ?_) | (refine wpList_load_mid rfl 184 _ rfl bl 0 rfl _ _ hla Tryz.underlying184 rfl hi35 ?_) | (go_at_call 404; refine (hfo _ hrc).mono ?_; rintro e w' ⟨rfl,hbw⟩) | (refine wpList_store_mid rfl 346 _ _ rfl w.heap.size 0 (cW F).toArray rfl rfl ?_ hiF (all_oneCell_toArray (cW_one F)) ?_; exact (by rw [hszF]; exact (HL.out _ hbw).res)))
          refine bodyPost_ret (v := .agg (cW F).toArray) ?_ rfl ⟨by rw [HE.out],?_⟩
          · refine results_cell_mid Tryz.results405 _ _ w.heap.size 0 (cW F) (.array 8 110) ?_ ?_ Tryz.underlying346 rfl hiF2
            · rfl
            · go_light
              exact World.rangeAt_setCells_same _ _ _ _ (by rw [cW_len,hFl]; exact (HL.out _ hbw).res)
          · go_light
            exact below_setCells (HL.out _ hbw).below (Nat.le_refl _) _ _
end Go.Proofs.YtoblgjledefdbaaGreatDoor
namespace Go.Proofs.YtoblgjledefdbaaGreatDoor
open Go.RowKit
def tB (s:ByteArray):List Int:=s.data.toList.map fun x=>(x.toNat:Int)
theorem tB_len (s:ByteArray):(tB s).length=s.size:=by simp [tB]
theorem cB_tB (s:ByteArray):cB (tB s)=s.data.toList.map fun x=>Value.int .u8 (x.toNat:Int):=by simp [cB,tB,List.map_map,Function.comp_def]
theorem run_copy_str {P:Program} (w:World) (dT sT ty elem:TypeId) (b o dLen dCap c:Nat) (t:ByteArray)
  (hu:P.underlying dT=some (.slice elem)) (hz : ∀ w,(Go.sizeOf elem).run P w = .ok 1 w) (hc:Nat.min t.size dLen=c) (ht:w.there b o c) :
  (Builtin.copy_ #[dT,sT] ty #[.slice (some ⟨b,o,none⟩) dLen dCap,.string t]).run P w = .ok (goInt c) (w.setCells b o (cB ((tB t).take c))):=by
 have hle:c≤t.size:=by rw [← hc]; exact Nat.min_le_left _ _
 have hl:(cB ((tB t).take c)).length=c:=by rw [cB_len,List.length_take,tB_len]; omega
 have hst:=run_storeCells_cells (P:=P) b o (cB ((tB t).take c)) 0 w (by rw [hl]; intro j hj; simpa using (ht j hj).1) (by rw [hl]; intro j hj; simpa using (ht j hj).2) (cB_one _)
 have he:List.take c (List.map (fun x:UInt8=>Value.int IntKind.u8 (x.toNat:Int)) t.data.toList)=cB ((tB t).take c):=by
  rw [← cB_tB]; simp [cB,List.map_take]
 simp only [Nat.add_zero] at hst
 simp [Builtin.copy_,run_underlying hu,Builtin.lenOf,Builtin.firstCells,hz,hc]
 rw [he,hst]
 rfl
theorem step_copy_str {P:Program} {ops:Array Oper} {o:Oper} {a:Act} {w:World} {K:Act→World→Prop} {Q:Exit→Act→World→Prop} {E:Prop}
  (hg:o.guard=none) (d x:Operand) (dT sT:TypeId) (hop:o.op=Op.call { callee:=Callee.builtin Builtin.copy,args:=#[d,x],argTypes:=#[dT,sT] })
  (elem:TypeId) (hu:P.underlying dT=some (.slice elem)) (hz : ∀ w,(Go.sizeOf elem).run P w = .ok 1 w)
  (b off dLen dCap c:Nat) (hd:a.eval d = .slice (some ⟨b,off,none⟩) dLen dCap) (t:ByteArray) (hx:a.eval x = .string t) (hc:Nat.min t.size dLen=c) (ht:w.there b off c)
  (hK:K (a.put o.dst (goInt c)) (w.setCells b off (cB ((tB t).take c)))) :
  if Region.wanted o (yielded ops a.tmps)=true then Oper.wp P o a w K Q else E:=by
 have hw:Region.wanted o (yielded ops a.tmps)=true:=by simp [Region.wanted,hg]
 rw [if_pos hw]
 have hrun:=run_copy_str (P:=P) w dT sT o.type elem b off dLen dCap c t hu hz hc ht
 unfold Oper.wp
 simp [execOp,hop,resolve,invoke,builtin,hd,hx,hrun,Result.andThen]
 exact hK
theorem range_mid {w:World} {b o:Nat} {cs:List Value} (h:w.rangeAt b o cs) (k:Nat) (vs:List Value) (hk:k+vs.length≤cs.length) (ht:w.there b (o+k) vs.length) :
  (w.setCells b (o+k) vs).rangeAt b o (cs.take k++vs++cs.drop (k+vs.length)):=fun j u hu=>by
 have hlen:(cs.take k).length=k:=by simp; omega
 by_cases hj:j<k
 ·rw [List.append_assoc,List.getElem?_append_left (by omega),List.getElem?_take,if_pos hj] at hu
  rw [World.cell?_setCells_out b vs (o+k) w ⟨b,o+j,none⟩ (fun _ _=>Or.inl (by show o+j<o+k; omega))]
  exact h j u hu
 ·by_cases hj2:j<k+vs.length
  ·rw [List.getElem?_append_left (by simp; omega),List.getElem?_append_right (by omega),hlen] at hu
   have:=World.cell?_setCells_in b vs (o+k) w (fun i hi=>(ht i hi).1) (j - k) (by omega)
   rw [show o+k+(j - k)=o+j by omega] at this
   rw [this,← hu,List.getElem?_eq_getElem (by omega)]
  ·rw [List.getElem?_append_right (by simp; omega)] at hu
   rw [List.getElem?_drop,show k+vs.length+(j - (cs.take k++vs).length)=j by simp; omega] at hu
   rw [World.cell?_setCells_out b vs (o+k) w ⟨b,o+j,none⟩ (fun _ _=>Or.inr (by show o+k+vs.length≤o+j; omega))]
   exact h j u hu
def stN (rs iv t:List Int):Nat→List Int
 | 0=>iv
 | k+1=>foldI rs (stN rs iv t k) ((t.drop (64 * k)).take 64)
theorem stN_append (rs iv t x:List Int) (k:Nat) (h:64 * k≤t.length):stN rs iv (t++x) k=stN rs iv t k:=by
 induction k with
 | zero=>rfl
 | succ k ih =>
  rw [stN,stN,ih (by omega),List.drop_append_of_le_length (by omega),List.take_append_of_le_length (by simp; omega)]
def Hst (w:World) (p:Nat) (rs iv t:List Int):Prop :=
 ∃ st blk,Hs w p st blk t.length∧st=stN rs iv t (t.length / 64)∧blk.take (t.length % 64)=t.drop (64 * (t.length / 64))
def blkC (blk x:List Int) (u:Nat):List Int:=blk.take u++x++blk.drop (u+x.length)
theorem blkC_len {blk x:List Int} {u:Nat} (h:blk.length=64) (hu:u+x.length≤64):(blkC blk x u).length=64:=by simp [blkC,h]; omega
theorem blkC_take {blk x t:List Int} {u:Nat} (h:blk.length=64) (_hu:u+x.length≤64) (ht:t.length % 64=u) (hb:blk.take u=t.drop (64 * (t.length / 64))) :
  (blkC blk x u).take (u+x.length)=(t++x).drop (64 * (t.length / 64)):=by
 have e:(blk.take u++x).length=u+x.length:=by simp [h]; omega
 rw [blkC,List.take_append_of_le_length (by omega),List.take_of_length_le (by omega),hb,List.drop_append_of_le_length (by omega)]
theorem div_same {t x:List Int} (h:t.length % 64+x.length<64):(t++x).length / 64=t.length / 64∧(t++x).length % 64=t.length % 64+x.length:=by
 simp only [List.length_append]; omega
theorem div_next {t x:List Int} (h:t.length % 64+x.length=64):(t++x).length / 64=t.length / 64+1∧(t++x).length % 64=0:=by
 simp only [List.length_append]; omega
theorem Hs.copied {w:World} {p:Nat} {st blk:List Int} {n:Nat} (h:Hs w p st blk n) (u:Nat) (x:List Int) (hu:u+x.length≤64):Hs (w.setCells p (8+u) (cB x)) p st (blkC blk x u) n:=by
 have hl:=h.blkl
 refine ⟨h.stl,blkC_len hl hu,?_,?_,?_,World.there_setCells h.there _ _ _⟩
 ·exact World.rangeAt_setCells_apart h.st _ _ _ (by right; left; rw [cW_len,h.stl]; omega)
 ·have:=range_mid h.blk u (cB x) (by rw [cB_len,cB_len,hl]; omega) (fun j hj=>by
   rw [cB_len] at hj
   have:=h.there (8+u+j) (by omega)
   rwa [Nat.zero_add] at this)
  simpa [blkC,cB,List.map_take,List.map_drop] using this
 ·rw [World.cell?_setCells_out p (cB x) (8+u) w ⟨p,72,none⟩ (fun _ _=>by right; show 8+u+(cB x).length≤72; rw [cB_len]; omega)]
  exact h.len
theorem Hs.setLen {w:World} {p:Nat} {st blk:List Int} {n:Nat} (h:Hs w p st blk n) (m:Nat):Hs (w.setCell ⟨p,72,none⟩ (.int .u64 m)) p st blk m:=by
 have hl:=h.blkl
 have hs:=h.stl
 refine ⟨h.stl,h.blkl,?_,?_,?_,there_set h.there _ _⟩
 ·intro j u hu
  have hj:j<8:=by have:=(List.getElem?_eq_some_iff.1 hu).1; rw [cW_len,hs] at this; exact this
  rw [World.cell?_setCell_other _ _ _ _ (fun e=>by have:=congrArg Addr.off e; simp at this; omega)]
  exact h.st j u hu
 ·intro j u hu
  have hj:j<64:=by have:=(List.getElem?_eq_some_iff.1 hu).1; rw [cB_len,hl] at this; exact this
  rw [World.cell?_setCell_other _ _ _ _ (fun e=>by have:=congrArg Addr.off e; simp at this; omega)]
  exact h.blk j u hu
 ·exact World.cell?_setCell_same _ _ _ h.len
theorem Hs.setState {w:World} {p:Nat} {st blk:List Int} {n:Nat} (h:Hs w p st blk n) (st':List Int) (hs':st'.length=8):Hs (w.setCells p 0 (cW st')) p st' blk n:=by
 refine ⟨hs',h.blkl,?_,?_,?_,World.there_setCells h.there _ _ _⟩
 ·exact World.rangeAt_setCells_same _ _ _ _ (by rw [cW_len,hs']; exact fun j hj=>h.there j (by omega))
 ·exact World.rangeAt_setCells_apart h.blk _ _ _ (by right; right; rw [cW_len,hs']; omega)
 ·rw [World.cell?_setCells_out p (cW st') 0 w ⟨p,72,none⟩ (fun _ _=>by right; show 0+(cW st').length≤72; rw [cW_len,hs']; omega)]
  exact h.len
theorem Hs.drew {w:World} {p:Nat} {st blk:List Int} {n:Nat} (h:Hs w p st blk n):Hs w.drew p st blk n :=
 ⟨h.stl,h.blkl,by rw [World.rangeAt_drew]; exact h.st,by rw [World.rangeAt_drew]; exact h.blk,h.len,by rw [World.there_drew]; exact h.there⟩
theorem grown_setCells {a w:World} {b:Nat} (h:a.grownBy w (some b)) (o:Nat) (vs:List Value):a.grownBy (w.setCells b o vs) (some b):=by
 induction vs generalizing o w with
 | nil=>exact h
 | cons c r ih=>exact ih (Lib.grownBy_setB h o c) (o+1)
theorem grown_below {a w w':World} {b:Nat} (h:a.grownBy w (some b)) (hb:Below w.heap.size w w'):a.grownBy w' (some b) :=
 Lib.grownBy_trans h ⟨hb.os,hb.tape,hb.output,hb.size,fun k hk _=>hb.block k hk⟩
theorem grown_drew {a w:World} {b:Nat} (h:a.grownBy w (some b)):a.grownBy w.drew (some b):=⟨h.os,h.tape,h.output,h.size,h.block⟩
theorem range_grown {a w:World} {b c o:Nat} {cs:List Value} (h:a.grownBy w (some b)) (hne:c≠b) (hr:a.rangeAt c o cs):w.rangeAt c o cs:=fun j u hu=>by
 have h1:=hr j u hu
 have hlt:=World.block_lt_of_cell? _ _ h1
 rw [World.cell?_of_block (w:=a) (h.block c hlt (fun e=>hne (Option.some.inj e)))]
 exact h1
theorem Hs.ne_rounds {w:World} {p q:Nat} {st blk:List Int} {n:Nat} (h:Hs w p st blk n) {rs:List Int} (hl:rs.length=64) (hr:w.rangeAt q 0 (cW rs)):q≠p:=by
 rintro rfl
 have h1:=cell_cW0 hr (i:=8) (by omega)
 have h2:=cell_cB h.blk (i:=0) (by have:=h.blkl; omega)
 rw [Nat.add_zero,h1] at h2
 injection h2 with h2
 injection h2 with h2
 cases h2
theorem tB_extract (r:ByteArray) (c:Nat):tB (r.extract c r.size)=(tB r).drop c:=by
 have:(r.extract c r.size).data.toList=r.data.toList.drop c:=by
  rw [ByteArray.data_extract]
  simp [Array.toList_extract,List.extract]
  apply List.take_of_length_le
  simp
 rw [tB,this,tB,List.map_drop]
theorem tB_nil {r:ByteArray} (h:r.size=0):tB r=[]:=by
 have:=tB_len r
 rw [h] at this
 exact List.length_eq_zero_iff.1 this
theorem Hst.full {w:World} {p:Nat} {rs iv t x st blk:List Int} {u:Nat} (hl:blk.length=64) (hu:t.length % 64=u) (hx:u+x.length=64)
  (hst:st=stN rs iv t (t.length / 64)) (hb:blk.take u=t.drop (64 * (t.length / 64))) (h:Hs w p (foldI rs st (blkC blk x u)) (blkC blk x u) (t++x).length):Hst w p rs iv (t++x):=by
 have hd:=div_next (t:=t) (x:=x) (by omega)
 have hk:=blkC_take (x:=x) hl (by omega) hu hb
 rw [hx,List.take_of_length_le (by rw [blkC_len hl (by omega)]; exact Nat.le_refl _)] at hk
 refine ⟨_,_,h,?_,?_⟩
 ·rw [hd.1,stN,stN_append _ _ _ _ _ (by omega),← hst,← hk,List.take_of_length_le (by rw [blkC_len hl (by omega)]; exact Nat.le_refl _)]
 ·rw [hd.2,hd.1,List.take_zero,List.drop_eq_nil_of_le]
  simp only [List.length_append]; omega
theorem Hst.part {w:World} {p:Nat} {rs iv t x st blk:List Int} {u:Nat} (hl:blk.length=64) (hu:t.length % 64=u) (hx:u+x.length<64)
  (hst:st=stN rs iv t (t.length / 64)) (hb:blk.take u=t.drop (64 * (t.length / 64))) (h:Hs w p st (blkC blk x u) (t++x).length):Hst w p rs iv (t++x):=by
 have hd:=div_same (t:=t) (x:=x) (by omega)
 have hk:=blkC_take (x:=x) hl (by omega) hu hb
 refine ⟨_,_,h,?_,?_⟩
 ·rw [hd.1,stN_append _ _ _ _ _ (by omega),← hst]
 ·rw [hd.2,hd.1,hu]; exact hk
end Go.Proofs.YtoblgjledefdbaaGreatDoor
