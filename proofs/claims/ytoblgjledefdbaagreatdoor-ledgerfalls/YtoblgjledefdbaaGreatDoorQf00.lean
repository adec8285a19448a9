/- Own work. -/
import Derived.Deep.MidRow
import Derived.Below
import Derived.WalkKit
import Derived.Test.YtoblgjledefdbaaGreatDoorProg
import Derived.WalkSpells
import Derived.Outline
import Derived.KernelRfl
import Derived.Deep.LoopGhost
import Derived.Deep.RegionHeld3
import Derived.Deep.DrawnRows
import Derived.Deep.Light
namespace Go.Proofs.YtoblgjledefdbaaGreatDoor
open Go.RowKit
def rotI (x n:Int):Int:=bits .or .u32 (x / 2^n.toNat) (IntKind.u32.wrap (x * 2^(32 - n).toNat))
def cB (l:List Int):List Value:=l.map (Value.int .u8)
def cW (l:List Int):List Value:=l.map (Value.int .u32)
def pad (l:List Int):List Int:=l++List.replicate (64 - l.length) 0
def wordI (a b c d:Int):Int :=
 bits .or .u32 (bits .or .u32 (bits .or .u32 (IntKind.u32.wrap (IntKind.u32.wrap a * 16777216)) (IntKind.u32.wrap (IntKind.u32.wrap b * 65536))) (IntKind.u32.wrap (IntKind.u32.wrap c * 256))) (IntKind.u32.wrap d)
def sch0 (blk:List Int):Nat→List Int
 | 0=>[]
 | k+1=>sch0 blk k++[wordI (blk.getD (4 * k) 0) (blk.getD (4 * k+1) 0) (blk.getD (4 * k+2) 0) (blk.getD (4 * k+3) 0)]
def nextI (a x c y:Int):Int :=
 IntKind.u32.wrap (IntKind.u32.wrap (IntKind.u32.wrap (a+bits .xor .u32 (bits .xor .u32 (rotI x 7) (rotI x 18)) (x / 8))+c)+bits .xor .u32 (bits .xor .u32 (rotI y 17) (rotI y 19)) (y / 1024))
def schN (blk:List Int):Nat→List Int
 | 0=>sch0 blk 16
 | k+1=>schN blk k++[nextI ((schN blk k).getD k 0) ((schN blk k).getD (k+1) 0) ((schN blk k).getD (k+9) 0) ((schN blk k).getD (k+14) 0)]
theorem sch0_len (blk:List Int) (k:Nat):(sch0 blk k).length=k:=by
 induction k with
 | zero=>rfl
 | succ k ih=>simp [sch0,ih]
theorem schN_len (blk:List Int) (k:Nat):(schN blk k).length=16+k:=by
 induction k with
 | zero=>exact sch0_len _ _
 | succ k ih=>simp only [schN,List.length_append,ih,List.length_cons,List.length_nil]; omega
theorem pad_len {l:List Int} (h:l.length≤64):(pad l).length=64:=by simp [pad]; omega
theorem pad_full {l:List Int} (h:l.length=64):pad l=l:=by simp [pad,h]
theorem pad_getD (l:List Int) (i:Nat):(pad l).getD i 0=l.getD i 0:=by
 unfold pad
 simp only [List.getD_eq_getElem?_getD]
 by_cases h:i<l.length
 ·rw [List.getElem?_append_left h]
 ·rw [List.getElem?_append_right (by omega),List.getElem?_eq_none (l:=l) (by omega),List.getElem?_replicate]
  split <;> rfl
theorem pad_set {l:List Int} (h:l.length<64) (v:Int):(pad l).set l.length v=pad (l++[v]):=by
 unfold pad
 rw [List.set_append_right _ _ (Nat.le_refl _)]
 obtain ⟨n,hn⟩ : ∃ n,64 - l.length=n+1:=⟨64 - l.length - 1,by omega⟩
 have hn':64 - (l++[v]).length=n:=by simp; omega
 rw [hn,hn',List.replicate_succ]
 simp
theorem cell_cB {w:World} {b o:Nat} {l:List Int} (h:w.rangeAt b o (cB l)) {i:Nat} (hi:i<l.length):w.cell? ⟨b,o+i,none⟩=some (.int .u8 (l.getD i 0)) :=
 h i _ (by simp [cB,List.getElem?_eq_getElem hi,List.getD_eq_getElem?_getD])
theorem cell_cW {w:World} {b o:Nat} {l:List Int} (h:w.rangeAt b o (cW l)) {i:Nat} (hi:i<l.length):w.cell? ⟨b,o+i,none⟩=some (.int .u32 (l.getD i 0)) :=
 h i _ (by simp [cW,List.getElem?_eq_getElem hi,List.getD_eq_getElem?_getD])
theorem cell_cB0 {w:World} {b:Nat} {l:List Int} (h:w.rangeAt b 0 (cB l)) {i:Nat} (hi:i<l.length):w.cell? ⟨b,i,none⟩=some (.int .u8 (l.getD i 0)):=by
 have:=cell_cB h hi; rwa [Nat.zero_add] at this
theorem cell_cW0 {w:World} {b:Nat} {l:List Int} (h:w.rangeAt b 0 (cW l)) {i:Nat} (hi:i<l.length):w.cell? ⟨b,i,none⟩=some (.int .u32 (l.getD i 0)):=by
 have:=cell_cW h hi; rwa [Nat.zero_add] at this
theorem cW_len (l:List Int):(cW l).length=l.length:=by simp [cW]
theorem cB_len (l:List Int):(cB l).length=l.length:=by simp [cB]
theorem cW_one (l:List Int) : ∀ v∈cW l,v.oneCell'=true:=by
 intro v hv; obtain ⟨x,_,rfl⟩:=List.mem_map.1 hv; rfl
theorem cB_one (l:List Int) : ∀ v∈cB l,v.oneCell'=true:=by
 intro v hv; obtain ⟨x,_,rfl⟩:=List.mem_map.1 hv; rfl
theorem cW_set (l:List Int) (i:Nat) (v:Int):(cW l).set i (.int .u32 v)=cW (l.set i v):=by simp [cW,List.map_set]
theorem cB_set (l:List Int) (i:Nat) (v:Int):(cB l).set i (.int .u8 v)=cB (l.set i v):=by simp [cB,List.map_set]
theorem keep_cell {w:World} {a b:Addr} {v u:Value} (h:w.cell? b=some u) (hne:a.block≠b.block):(w.setCell a v).drew.cell? b=some u:=by
 rw [World.cell?_drew,World.cell?_setCell_other _ _ _ _ (fun e=>hne (by rw [e]))]; exact h
theorem range_set {w:World} {b o:Nat} {cs:List Value} (h:w.rangeAt b o cs) (i:Nat) (v:Value):(w.setCell ⟨b,o+i,none⟩ v).rangeAt b o (cs.set i v):=fun j u hu=>by
 by_cases e:i=j
 ·subst e
  rw [List.getElem?_set_self'] at hu
  cases hc:cs[i]? with
  | none=>simp [hc] at hu
  | some c =>
   simp [hc] at hu; subst hu
   exact World.cell?_setCell_same _ _ _ (h i c hc)
 ·rw [List.getElem?_set_ne e] at hu
  rw [World.cell?_setCell_other _ _ _ _ (fun e'=>e (by have:=congrArg Addr.off e'; simp at this; omega))]
  exact h j u hu
theorem range_other {w:World} {b o:Nat} {cs:List Value} (h:w.rangeAt b o cs) {a:Addr} (ha:a.block≠b) (v:Value):(w.setCell a v).rangeAt b o cs:=fun j u hu=>by
 rw [World.cell?_setCell_other _ _ _ _ (fun e=>ha (by rw [e]))]; exact h j u hu
theorem there_set {w:World} {b o n:Nat} (h:w.there b o n) (a:Addr) (v:Value):(w.setCell a v).there b o n:=fun j hj=>by
 obtain ⟨h1,h2⟩:=h j hj
 refine ⟨?_,by rw [World.frozen?_setCell]; exact h2⟩
 obtain ⟨u,hu⟩:=Option.isSome_iff_exists.1 h1
 by_cases e:a=⟨b,o+j,none⟩
 ·subst e; rw [World.cell?_setCell_same _ _ _ hu]; rfl
 ·rw [World.cell?_setCell_other _ _ _ _ e,hu]; rfl
theorem range_below {w w':World} {B b o:Nat} {cs:List Value} (hb:Below B w w') (hlt:b<B) (h:w.rangeAt b o cs):w'.rangeAt b o cs:=fun j u hu=>by
 rw [hb.cell (p:=⟨b,o+j,none⟩) hlt]; exact h j u hu
theorem there_below {w w':World} {B b o n:Nat} (hb:Below B w w') (hlt:b<B) (h:w.there b o n):w'.there b o n:=fun j hj=>by
 rw [hb.cell (p:=⟨b,o+j,none⟩) hlt,hb.frozen (p:=⟨b,o+j,none⟩) hlt]; exact h j hj
theorem range_new (w:World) (cs:List Value) (t:TypeId):(w.alloc (.cells cs.toArray t)).rangeAt w.heap.size 0 cs:=fun j u hu=>by
 rw [World.cell?_alloc_new,Nat.zero_add]; simpa using hu
theorem there_new (w:World) (cs:Array Value) (t:TypeId) (n:Nat) (hn:n≤cs.size):(w.alloc (.cells cs t)).there w.heap.size 0 n:=fun j hj=>by
 refine ⟨?_,World.frozen?_alloc_new _ _ _ _⟩
 rw [World.cell?_alloc_new,Nat.zero_add,Array.getElem?_eq_getElem (by omega)]; rfl
theorem there_lt {w:World} {b o n:Nat} (h:w.there b o n) (hn:0<n):b<w.heap.size:=by
 obtain ⟨u,hu⟩:=Option.isSome_iff_exists.1 (h 0 hn).1
 exact World.block_lt_of_cell? _ _ hu
theorem range_lt {w:World} {b o:Nat} {cs:List Value} (h:w.rangeAt b o cs) (hn:cs≠[]):b<w.heap.size:=by
 cases cs with
 | nil=>exact absurd rfl hn
 | cons c r=>exact World.block_lt_of_cell? _ _ (h 0 c rfl)
theorem wrap_id (x:Int) (h0:0≤x) (h1:x<9223372036854775808):IntKind.i64.wrap x=x:=by
 simp [IntKind.wrap,IntKind.bits,IntKind.signed]; omega
end Go.Proofs.YtoblgjledefdbaaGreatDoor
namespace Go.Proofs.YtoblgjledefdbaaGreatDoor
open Go.RowKit
attribute [local go_sem ↓] Go.wp_at_zero Go.wp_at_succ
theorem turned_any (x n:Int) (w:World) (hn:0<n) (hn':n<32) :
  Calls Tryz.prog 412 #[.int .u32 x,.int .u64 n] w fun e w'=>e = .returned (.int .u32 (rotI x n))∧w'=w:=by
 go_enter Tryz.func412,Tryz.ntmps412
 go_wp2
 go_ret
 refine ⟨?_,rfl⟩
 simp only [rotI,IntKind.wrap_u32']
 rfl
theorem waiting_any (n:Int) (w:World) (b:Nat) (h0:0≤n) (hc:w.cell? ⟨b,72,none⟩=some (.int .u64 n)) :
  Calls Tryz.prog 403 #[.pointer (some ⟨b,0,none⟩)] w fun e w'=>e = .returned (.int .i64 (n % 64))∧w'=w:=by
 go_enter Tryz.func403,Tryz.ntmps403
 go_wp2
 go_ret
 exact ⟨rfl,rfl⟩
theorem keep_off {w:World} {b i j:Nat} {v u:Value} (h:w.cell? ⟨b,i,none⟩=some u) (hne:i≠j):(w.setCell ⟨b,j,none⟩ v).drew.cell? ⟨b,i,none⟩=some u:=by
 rw [World.cell?_drew,World.cell?_setCell_other _ _ _ _ (fun e=>hne (by have:=congrArg Addr.off e; simpa using this.symm))]; exact h
theorem size46:(Tryz.prog.info? 403).map (·.size)=some 64:=by kernel_rfl
theorem results_cell_mid {P:Program} {fn:Func} {p:Tmp} {ty:TypeId} (h:fn.results=#[.cell p ty]) (tmps:Array Value) (w:World) (b o:Nat) (cs:List Value) (d:TypeDesc)
  (hp:tmps.getD p undef = .pointer (some ⟨b,o,none⟩)) (hc:w.rangeAt b o cs)
  (hu:P.underlying ty=some d) (hd:d.isRow=true) (hi:(P.info? ty).map (·.size)=some cs.length) :
  (results fn tmps).run P w = .ok (.agg cs.toArray) w:=by
 have hp':tmps[p]?.getD undef = .pointer (some ⟨b,o,none⟩):=by simpa using hp
 simp [results,h,hp',asAddr,run_loadVar_mid w b o ty cs d hc hu hd hi]
theorem below_setCells {B:Nat} {a w:World} (h:Below B a w) {b:Nat} (hb:B≤b) (o:Nat) (cs:List Value):Below B a (w.setCells b o cs):=by
 induction cs generalizing o w with
 | nil=>exact h
 | cons c r ih=>exact ih (h.setCell (p:=⟨b,o,none⟩) hb c) (o+1)
structure Sch (w wr:World) (blk ws:List Int):Prop where
 below:Below w.heap.size w wr
 blk:wr.rangeAt w.heap.size 0 (cB blk)
 res:wr.there (w.heap.size+1) 0 64
 ws:wr.rangeAt (w.heap.size+1+1) 0 (cW (pad ws))
 wst:wr.there (w.heap.size+1+1) 0 64
theorem Sch.step {w wr:World} {blk ws:List Int} (h:Sch w wr blk ws) (hl:ws.length<64) (v:Int) :
  Sch w (wr.setCell ⟨w.heap.size+1+1,ws.length,none⟩ (.int .u32 v)).drew blk (ws++[v]):=by
 refine ⟨(h.below.setCell (by show w.heap.size≤w.heap.size+1+1; omega) _).drew,?_,?_,?_,?_⟩
 ·rw [World.rangeAt_drew]; exact range_other h.blk (by show w.heap.size+1+1≠w.heap.size; omega) _
 ·rw [World.there_drew]; exact there_set h.res _ _
 ·rw [World.rangeAt_drew]
  have:=range_set h.ws ws.length (.int .u32 v)
  rw [Nat.zero_add,cW_set,pad_set hl] at this
  exact this
 ·rw [World.there_drew]; exact there_set h.wst _ _
theorem Sch.drew {w wr:World} {blk ws:List Int} (h:Sch w wr blk ws):Sch w wr.drew blk ws :=
 ⟨h.below.drew,by rw [World.rangeAt_drew]; exact h.blk,by rw [World.there_drew]; exact h.res,by rw [World.rangeAt_drew]; exact h.ws,by rw [World.there_drew]; exact h.wst⟩
theorem Sch.start (w:World) (blk:List Int) (z1 z2:Array Value) (t1 t2 t3:TypeId) (h1:z1.size=64) (h2:z2=(cW (pad [])).toArray) :
  Sch w (((w.alloc (.cells (cB blk).toArray t1)).alloc (.cells z1 t2)).alloc (.cells z2 t3)) blk []:=by
 subst h2
 have r1:=range_new w (cB blk) t1
 have t2':=there_new (w.alloc (.cells (cB blk).toArray t1)) z1 t2 64 (by omega)
 have r3:=range_new ((w.alloc (.cells (cB blk).toArray t1)).alloc (.cells z1 t2)) (cW (pad [])) t3
 have t3':=there_new ((w.alloc (.cells (cB blk).toArray t1)).alloc (.cells z1 t2)) (cW (pad [])).toArray t3 64 (by simp [cW_len,pad])
 simp only [World.size_alloc] at r1 t2' r3 t3'
 exact ⟨(((Below.refl _ _).alloc (Nat.le_refl _) _).alloc (by simp) _).alloc (by simp; omega) _,World.rangeAt_alloc (World.rangeAt_alloc r1 _) _,World.there_alloc t2' _,r3,t3'⟩
set_option maxHeartbeats 1000000 in
set_option maxRecDepth 100000 in
theorem schedule_any (blk:List Int) (hl:blk.length=64) (w:World) :
  Calls Tryz.prog 411 #[.agg (cB blk).toArray] w fun e w'=>e = .returned (.agg (cW (schN blk 48)).toArray)∧Below w.heap.size w w':=by
 go_enter Tryz.func411,Tryz.ntmps411
 go_wp2
 go_loopg [8] 16 (fun g i wr => ∃ k:Nat,k≤16∧g=16 - k∧i = .int .i64 k∧Sch w wr blk (sch0 blk k))
 case atStart =>
  go_light
  exact ⟨0,Nat.zero_le _,rfl,rfl,Sch.start w blk _ _ _ _ _ rfl rfl⟩
 case round =>
  obtain ⟨k,hk,rfl,rfl,hs⟩:=hrel
  by_cases hlt:k<16
  ·have hk0:(0:Int)≤(k:Int):=Int.natCast_nonneg _
   have hk8:(k:Int)<16:=by omega
   obtain ⟨m,hm⟩ : ∃ m:Nat,4 * k=m:=⟨_,rfl⟩
   obtain ⟨m1,hm1⟩ : ∃ m1:Nat,m+1=m1:=⟨_,rfl⟩
   obtain ⟨m2,hm2⟩ : ∃ m2:Nat,m+2=m2:=⟨_,rfl⟩
   obtain ⟨m3,hm3⟩ : ∃ m3:Nat,m+3=m3:=⟨_,rfl⟩
   have e0:IntKind.i64.wrap (4 * (k:Int))=(m:Int):=by rw [wrap_id _ (by omega) (by omega)]; omega
   have e1:IntKind.i64.wrap ((m:Int)+1)=(m1:Int):=by rw [wrap_id _ (by omega) (by omega)]; omega
   have e2:IntKind.i64.wrap ((m:Int)+2)=(m2:Int):=by rw [wrap_id _ (by omega) (by omega)]; omega
   have e3:IntKind.i64.wrap ((m:Int)+3)=(m3:Int):=by rw [wrap_id _ (by omega) (by omega)]; omega
   have b0:(0:Int)≤(m:Int):=Int.natCast_nonneg _
   have b1:(0:Int)≤(m1:Int):=Int.natCast_nonneg _
   have b2:(0:Int)≤(m2:Int):=Int.natCast_nonneg _
   have b3:(0:Int)≤(m3:Int):=Int.natCast_nonneg _
   have d0:(m:Int)<64:=by omega
   have d1:(m1:Int)<64:=by omega
   have d2:(m2:Int)<64:=by omega
   have d3:(m3:Int)<64:=by omega
   have dk:(k:Int)<64:=by omega
   have c0:wr.cell? ⟨w.heap.size,m,none⟩=some (.int .u8 (blk.getD m 0)):=cell_cB0 hs.blk (by omega)
   have c1:wr.cell? ⟨w.heap.size,m1,none⟩=some (.int .u8 (blk.getD m1 0)):=cell_cB0 hs.blk (by omega)
   have c2:wr.cell? ⟨w.heap.size,m2,none⟩=some (.int .u8 (blk.getD m2 0)):=cell_cB0 hs.blk (by omega)
   have c3:wr.cell? ⟨w.heap.size,m3,none⟩=some (.int .u8 (blk.getD m3 0)):=cell_cB0 hs.blk (by omega)
   have st:wr.cell? ⟨w.heap.size+1+1,k,none⟩=some (.int .u32 ((pad (sch0 blk k)).getD k 0)):=cell_cW0 hs.ws (by rw [pad_len (by rw [sch0_len]; omega)]; omega)
   have sf:wr.frozen? ⟨w.heap.size+1+1,k,none⟩=false:=by have:=(hs.wst k (by omega)).2; rwa [Nat.zero_add] at this
   have HF:Hid (∀ v,Sch w (wr.setCell ⟨w.heap.size+1+1,k,none⟩ (.int .u32 v)).drew blk (sch0 blk k++[v])):=fun v=>by
    have:=hs.step (by rw [sch0_len]; omega) v
    rwa [sch0_len] at this
   have HV:Hid (sch0 blk (k+1)=sch0 blk k++[wordI (blk.getD m 0) (blk.getD m1 0) (blk.getD m2 0) (blk.getD m3 0)]):=by
    show _=_
    subst hm hm1 hm2 hm3; rfl
   clear hs hm hm1 hm2 hm3
   generalize (pad (sch0 blk k)).getD k 0=z at *
   generalize blk.getD m 0=x0 at *
   generalize blk.getD m1 0=x1 at *
   generalize blk.getD m2 0=x2 at *
   generalize blk.getD m3 0=x3 at *
   go_wp2
   go_region_held3 (fun w'=>w'.cell? ⟨w.heap.size,m,none⟩=some (.int .u8 x0)∧w'.cell? ⟨w.heap.size,m1,none⟩=some (.int .u8 x1)∧w'.cell? ⟨w.heap.size,m2,none⟩=some (.int .u8 x2)∧w'.cell? ⟨w.heap.size,m3,none⟩=some (.int .u8 x3)) (first | assumption | (refine ⟨?_,?_,?_,?_⟩ <;> first | assumption | (refine keep_cell (by assumption) ?_; show w.heap.size+1+1≠w.heap.size; omega))) (fail)
   go_wp2
   go_roundg (16 - (k+1))
   case rel =>
    go_light
    refine ⟨k+1,by omega,rfl,by go_num,?_⟩
    rw [HV.out]
    exact HF.out _
   case measure=>go_light; omega
  ·obtain rfl:k=16:=by omega
   clear hk hlt
   go_wp2
   go_loopg [5] 48 (fun g i wr => ∃ k:Nat,k≤48∧g=48 - k∧i = .int .i64 ((16+k:Nat):Int)∧Sch w wr blk (schN blk k))
   case atStart =>
    go_light
    exact ⟨0,Nat.zero_le _,rfl,rfl,hs⟩
   case round =>
    clear hs
    obtain ⟨k,hk,rfl,rfl,hs⟩:=hrel
    by_cases hlt:k<48
    ·obtain ⟨t,ht⟩ : ∃ t:Nat,16+k=t:=⟨_,rfl⟩
     obtain ⟨k1,hk1⟩ : ∃ k1:Nat,k+1=k1:=⟨_,rfl⟩
     obtain ⟨k9,hk9⟩ : ∃ k9:Nat,k+9=k9:=⟨_,rfl⟩
     obtain ⟨k14,hk14⟩ : ∃ k14:Nat,k+14=k14:=⟨_,rfl⟩
     rw [ht]
     have e0:IntKind.i64.wrap ((t:Int) - 16)=(k:Int):=by rw [wrap_id _ (by omega) (by omega)]; omega
     have e1:IntKind.i64.wrap ((t:Int) - 15)=(k1:Int):=by rw [wrap_id _ (by omega) (by omega)]; omega
     have e2:IntKind.i64.wrap ((t:Int) - 7)=(k9:Int):=by rw [wrap_id _ (by omega) (by omega)]; omega
     have e3:IntKind.i64.wrap ((t:Int) - 2)=(k14:Int):=by rw [wrap_id _ (by omega) (by omega)]; omega
     have b0:(0:Int)≤(k:Int):=Int.natCast_nonneg _
     have b1:(0:Int)≤(k1:Int):=Int.natCast_nonneg _
     have b2:(0:Int)≤(k9:Int):=Int.natCast_nonneg _
     have b3:(0:Int)≤(k14:Int):=Int.natCast_nonneg _
     have bt:(0:Int)≤(t:Int):=Int.natCast_nonneg _
     have d0:(k:Int)<64:=by omega
     have d1:(k1:Int)<64:=by omega
     have d2:(k9:Int)<64:=by omega
     have d3:(k14:Int)<64:=by omega
     have dt:(t:Int)<64:=by omega
     have hlen:=schN_len blk k
     have hpl:(pad (schN blk k)).length=64:=pad_len (by omega)
     have c0:wr.cell? ⟨w.heap.size+1+1,k,none⟩=some (.int .u32 ((schN blk k).getD k 0)):=by rw [← pad_getD]; exact cell_cW0 hs.ws (by omega)
     have c1:wr.cell? ⟨w.heap.size+1+1,k1,none⟩=some (.int .u32 ((schN blk k).getD k1 0)):=by rw [← pad_getD]; exact cell_cW0 hs.ws (by omega)
     have c2:wr.cell? ⟨w.heap.size+1+1,k9,none⟩=some (.int .u32 ((schN blk k).getD k9 0)):=by rw [← pad_getD]; exact cell_cW0 hs.ws (by omega)
     have c3:wr.cell? ⟨w.heap.size+1+1,k14,none⟩=some (.int .u32 ((schN blk k).getD k14 0)):=by rw [← pad_getD]; exact cell_cW0 hs.ws (by omega)
     have st:wr.cell? ⟨w.heap.size+1+1,t,none⟩=some (.int .u32 ((schN blk k).getD t 0)):=by rw [← pad_getD]; exact cell_cW0 hs.ws (by omega)
     have sf:wr.frozen? ⟨w.heap.size+1+1,t,none⟩=false:=by have:=(hs.wst t (by omega)).2; rwa [Nat.zero_add] at this
     have HF:Hid (∀ v,Sch w (wr.drew.setCell ⟨w.heap.size+1+1,t,none⟩ (.int .u32 v)).drew blk (schN blk k++[v])):=fun v=>by
      have:=hs.drew.step (by omega) v
      rwa [hlen,ht] at this
     have HV:Hid (schN blk (k+1)=schN blk k++[nextI ((schN blk k).getD k 0) ((schN blk k).getD k1 0) ((schN blk k).getD k9 0) ((schN blk k).getD k14 0)]):=by
      show _=_
      subst hk1 hk9 hk14; rfl
     have HT:Hid (16+k=t):=ht
     have N0:k≠t:=by omega
     have N1:k1≠t:=by omega
     have N2:k9≠t:=by omega
     have N3:k14≠t:=by omega
     clear hs ht hk1 hk9 hk14 hlen hpl hl
     generalize (schN blk k).getD k 0=x0 at *
     generalize (schN blk k).getD k1 0=x1 at *
     generalize (schN blk k).getD k9 0=x2 at *
     generalize (schN blk k).getD k14 0=x3 at *
     generalize (schN blk k).getD t 0=z at *
     go_wp2
     go_region_held3 (fun w'=>w'.cell? ⟨w.heap.size+1+1,k1,none⟩=some (.int .u32 x1)∧w'.cell? ⟨w.heap.size+1+1,k14,none⟩=some (.int .u32 x3)) (first | assumption | (refine ⟨?_,?_⟩ <;> first | assumption | (rw [World.cell?_drew]; assumption))) (fail)
     go_wp2
     go_region_held3 (fun w'=>w'.cell? ⟨w.heap.size+1+1,k,none⟩=some (.int .u32 x0)∧w'.cell? ⟨w.heap.size+1+1,k9,none⟩=some (.int .u32 x2)) (first | assumption | (refine ⟨?_,?_⟩ <;> first | assumption | (rw [World.cell?_drew]; assumption) | (refine keep_off ?_ ?_ <;> assumption))) (first | (go_at_call 412; refine (turned_any _ _ _ (by decide) (by decide)).mono ?_; rintro e w' ⟨rfl,rfl⟩))
     go_wp2
     go_roundg (48 - (k+1))
     case rel =>
      go_light
      refine ⟨k+1,by omega,rfl,?_,?_⟩
      ·have:=HT.out; go_num
      rw [HV.out]
      exact HF.out _
     case measure=>go_light; omega
    ·obtain rfl:k=48:=by omega
     have hlen:=schN_len blk 48
     have hws:=hs.ws
     rw [pad_full hlen] at hws
     have hres:=hs.res
     have hbel:=hs.below
     have hi:(Tryz.prog.info? 403).map (·.size)=some (cW (schN blk 48)).length:=by rw [cW_len,hlen]; exact size46
     have hi2:(Tryz.prog.info? 403).map (·.size)=some (cW (schN blk 48)).toArray.size:=by simpa using hi
     have hre2:wr.there (w.heap.size+1) 0 (cW (schN blk 48)).toArray.size:=by
      have hsz:(cW (schN blk 48)).toArray.size=64:=by simp [cW_len,hlen]
      rw [hsz]; exact hres
     clear hs hk hlt hl hlen
     generalize hE:schN blk 48=ws at *
     have HE:Hid (schN blk 48=ws):=hE
     clear hE
     go_wp2_with (first | (refine wpList_load_mid rfl 403 _ rfl (w.heap.size+1+1) 0 rfl (cW ws) _ hws Tryz.underlying403 rfl hi ?_) | (refine wpList_store_mid rfl 403 _ _ rfl (w.heap.size+1) 0 (cW ws).toArray rfl rfl hre2 hi2 (all_oneCell_toArray (cW_one ws)) ?_))
     refine bodyPost_ret (v := .agg (cW ws).toArray) ?_ rfl ⟨by rw [HE.out],?_⟩
     ·refine results_cell_mid Tryz.results411 _ _ (w.heap.size+1) 0 (cW ws) (.array 64 110) ?_ ?_ Tryz.underlying403 rfl hi
      ·rfl
      ·go_light
       simpa using World.rangeAt_setCells_same _ _ _ _ (by simpa using hre2)
     ·go_light
      exact below_setCells hbel (by omega) _ _
end Go.Proofs.YtoblgjledefdbaaGreatDoor
namespace Go.Proofs.YtoblgjledefdbaaGreatDoor
open Go.RowKit
structure S8 where
 a:Int
 b:Int
 c:Int
 d:Int
 e:Int
 f:Int
 g:Int
 h:Int
def oneI (e f g h r w:Int):Int :=
 IntKind.u32.wrap (IntKind.u32.wrap (IntKind.u32.wrap (IntKind.u32.wrap (h+bits .xor .u32 (bits .xor .u32 (rotI e 6) (rotI e 11)) (rotI e 25))+bits .xor .u32 (bits .and .u32 e f) (bits .and .u32 (bits .xor .u32 IntKind.u32.max e) g))+r)+w)
def twoI (a b c:Int):Int :=
 IntKind.u32.wrap (bits .xor .u32 (bits .xor .u32 (rotI a 2) (rotI a 13)) (rotI a 22)+bits .xor .u32 (bits .xor .u32 (bits .and .u32 a b) (bits .and .u32 a c)) (bits .and .u32 b c))
def S8.rnd (v:S8) (r w:Int):S8 :=
 { a:=IntKind.u32.wrap (oneI v.e v.f v.g v.h r w+twoI v.a v.b v.c),b:=v.a,c:=v.b,d:=v.c,e:=IntKind.u32.wrap (v.d+oneI v.e v.f v.g v.h r w),f:=v.e,g:=v.f,h:=v.g }
def rnds (v:S8) (rs ws:List Int):Nat→S8
 | 0=>v
 | k+1=>(rnds v rs ws k).rnd (rs.getD k 0) (ws.getD k 0)
def s8of (st:List Int):S8:=⟨st.getD 0 0,st.getD 1 0,st.getD 2 0,st.getD 3 0,st.getD 4 0,st.getD 5 0,st.getD 6 0,st.getD 7 0⟩
def sumI (s v:S8):List Int :=
 [IntKind.u32.wrap (s.a+v.a),IntKind.u32.wrap (s.b+v.b),IntKind.u32.wrap (s.c+v.c),IntKind.u32.wrap (s.d+v.d),IntKind.u32.wrap (s.e+v.e),IntKind.u32.wrap (s.f+v.f),IntKind.u32.wrap (s.g+v.g),IntKind.u32.wrap (s.h+v.h)]
def foldI (rs st blk:List Int):List Int:=sumI (s8of st) (rnds (s8of st) rs (schN blk 48) 64)
theorem list8 {st:List Int} (h:st.length=8) : ∃ s0 s1 s2 s3 s4 s5 s6 s7,st=[s0,s1,s2,s3,s4,s5,s6,s7]:=by
 match st,h with
 | [s0,s1,s2,s3,s4,s5,s6,s7],_=>exact ⟨s0,s1,s2,s3,s4,s5,s6,s7,rfl⟩
end Go.Proofs.YtoblgjledefdbaaGreatDoor
namespace Go.Proofs.YtoblgjledefdbaaGreatDoor
open Go.RowKit
attribute [local go_sem ↓] Go.wp_at_zero Go.wp_at_succ
theorem size35:(Tryz.prog.info? 184).map (·.size)=some 64:=by kernel_rfl
theorem size34:(Tryz.prog.info? 346).map (·.size)=some 8:=by kernel_rfl
structure Fo (w wr:World) (st ws rs:List Int) (N:Nat):Prop where
 below:Below w.heap.size w wr
 st:wr.rangeAt w.heap.size 0 (cW st)
 res:wr.there (w.heap.size+1+1) 0 8
 ws:wr.rangeAt N 0 (cW ws)
 rs:wr.rangeAt 3 0 (cW rs)
theorem Fo.drew {w wr:World} {st ws rs:List Int} {N:Nat} (h:Fo w wr st ws rs N):Fo w wr.drew st ws rs N :=
 ⟨h.below.drew,by rw [World.rangeAt_drew]; exact h.st,by rw [World.there_drew]; exact h.res,by rw [World.rangeAt_drew]; exact h.ws,by rw [World.rangeAt_drew]; exact h.rs⟩
theorem Fo.start {w w':World} {st blk ws rs:List Int} {t1 t2 t3 t4:TypeId} {z:List Int} (hz:z.length=8) {z2:Array Value} (hz2:z2.size=64) (hwl:ws.length=64) (hrl:rs.length=64)
  (hr:w.rangeAt 3 0 (cW rs))
  (hb:Below (((w.alloc (.cells (cW st).toArray t1)).alloc (.cells (cB blk).toArray t2)).alloc (.cells (cW z).toArray t3)).heap.size (((w.alloc (.cells (cW st).toArray t1)).alloc (.cells (cB blk).toArray t2)).alloc (.cells (cW z).toArray t3)) w') :
  Fo w ((w'.alloc (.cells z2 t4)).setCells w'.heap.size 0 (cW ws)) st ws rs w'.heap.size:=by
 have hlt:3<w.heap.size:=range_lt hr (by intro h; have:=congrArg List.length h; simp [cW_len,hrl] at this)
 have hN:w.heap.size+3≤w'.heap.size:=by have:=hb.size; simp at this; omega
 have hbw2:Below w.heap.size w w':=((((Below.refl _ _).alloc (Nat.le_refl _) _).alloc (by simp) _).alloc (by simp; omega) _).trans (hb.mono (by simp; omega))
 have h1:w'.rangeAt w.heap.size 0 (cW st):=range_below hb (by simp; omega) (World.rangeAt_alloc (World.rangeAt_alloc (range_new _ _ _) _) _)
 have h2:w'.there (w.heap.size+1+1) 0 8:=by
  have:=there_new ((w.alloc (.cells (cW st).toArray t1)).alloc (.cells (cB blk).toArray t2)) (cW z).toArray t3 8 (by simp [cW_len,hz])
  simp only [World.size_alloc] at this
  exact there_below hb (by simp) this
 have h3:w'.rangeAt 3 0 (cW rs):=range_below hbw2 hlt hr
 refine ⟨below_setCells (hbw2.alloc (by omega) _) (by omega) _ _,?_,?_,?_,?_⟩
 ·exact World.rangeAt_setCells_apart (World.rangeAt_alloc h1 _) _ _ _ (Or.inl (by omega))
 ·exact World.there_setCells (World.there_alloc h2 _) _ _ _
 ·exact World.rangeAt_setCells_same _ _ _ _ (there_new _ _ _ _ (by rw [cW_len,hwl,hz2]; exact Nat.le_refl _))
 ·exact World.rangeAt_setCells_apart (World.rangeAt_alloc h3 _) _ _ _ (Or.inl (by omega))
set_option maxHeartbeats 2000000 in
set_option maxRecDepth 100000 in
theorem folded_any (st:List Int) (hst:st.length=8) (blk:List Int) (hl:blk.length=64) (w:World) (rs:List Int) (hrl:rs.length=64) (hr:w.rangeAt 3 0 (cW rs)) :
  Calls Tryz.prog 404 #[.agg (cW st).toArray,.agg (cB blk).toArray] w fun e w'=>e = .returned (.agg (cW (foldI rs st blk)).toArray)∧Below w.heap.size w w':=by
 obtain ⟨s0,s1,s2,s3,s4,s5,s6,s7,rfl⟩:=list8 hst
 clear hst
 obtain ⟨ws,hws⟩ : ∃ ws,ws=schN blk 48:=⟨_,rfl⟩
 have hwl:ws.length=64:=by rw [hws,schN_len]
 have hsched:=fun w=>schedule_any blk hl w
 rw [← hws] at hsched
 have HE:Hid (ws=schN blk 48):=hws
 clear hws
 have hi35:(Tryz.prog.info? 184).map (·.size)=some (cB blk).length:=by rw [cB_len,hl]; exact size35
 have hi46:(Tryz.prog.info? 403).map (·.size)=some (cW ws).toArray.size:=by rw [List.size_toArray,cW_len,hwl]; exact size46
 have hsz:(cW ws).toArray.size=64:=by simp [cW_len,hwl]
 have r1:=fun o=>World.rangeAt_alloc (range_new (w.alloc o) (cB blk) 184)
 simp only [World.size_alloc] at r1
 go_enter Tryz.func404,Tryz.ntmps404
 go_wp2_with (first | (refine wpList_load_mid rfl 184 _ rfl (w.heap.size+1) 0 rfl (cB blk) _ (r1 _ _) Tryz.underlying184 rfl hi35 ?_) | (go_at_call 411; refine (hsched _).mono ?_; rintro e w' ⟨rfl,hbw⟩) | (refine wpList_store_mid rfl 403 _ _ rfl _ 0 (cW ws).toArray rfl rfl ?_ hi46 (all_oneCell_toArray (cW_one ws)) ?_; exact there_new _ _ _ _ (by rw [hsz]; exact Nat.le_refl 64)))
 go_simp
 have hFo:=Fo.start (z:=[0,0,0,0,0,0,0,0]) (z2:=(cW (List.replicate 64 0)).toArray) (t4:=403) rfl rfl hwl hrl hr hbw
 clear hbw r1 hsched
 replace hFo:Fo w ((w'.alloc (.cells #[.int .u32 0,.int .u32 0,.int .u32 0,.int .u32 0,.int .u32 0,.int .u32 0,.int .u32 0,.int .u32 0,.int .u32 0,.int .u32 0,.int .u32 0,.int .u32 0,.int .u32 0,.int .u32 0,.int .u32 0,.int .u32 0,.int .u32 0,.int .u32 0,.int .u32 0,.int .u32 0,.int .u32 0,.int .u32 0,.int .u32 0,.int .u32 0,.int .u32 0,.int .u32 0,.int .u32 0,.int .u32 0,.int .u32 0,.int .u32 0,.int .u32 0,.int .u32 0,.int .u32 0,.int .u32 0,.int .u32 0,.int .u32 0,.int .u32 0,.int .u32 0,.int .u32 0,.int .u32 0,.int .u32 0,.int .u32 0,.int .u32 0,.int .u32 0,.int .u32 0,.int .u32 0,.int .u32 0,.int .u32 0,.int .u32 0,.int .u32 0,.int .u32 0,.int .u32 0,.int .u32 0,.int .u32 0,.int .u32 0,.int .u32 0,.int .u32 0,.int .u32 0,.int .u32 0,.int .u32 0,.int .u32 0,.int .u32 0,.int .u32 0,.int .u32 0] 403)).setCells w'.heap.size 0 (cW ws)) [s0,s1,s2,s3,s4,s5,s6,s7] ws rs w'.heap.size:=hFo
 generalize ((w'.alloc (.cells #[.int .u32 0,.int .u32 0,.int .u32 0,.int .u32 0,.int .u32 0,.int .u32 0,.int .u32 0,.int .u32 0,.int .u32 0,.int .u32 0,.int .u32 0,.int .u32 0,.int .u32 0,.int .u32 0,.int .u32 0,.int .u32 0,.int .u32 0,.int .u32 0,.int .u32 0,.int .u32 0,.int .u32 0,.int .u32 0,.int .u32 0,.int .u32 0,.int .u32 0,.int .u32 0,.int .u32 0,.int .u32 0,.int .u32 0,.int .u32 0,.int .u32 0,.int .u32 0,.int .u32 0,.int .u32 0,.int .u32 0,.int .u32 0,.int .u32 0,.int .u32 0,.int .u32 0,.int .u32 0,.int .u32 0,.int .u32 0,.int .u32 0,.int .u32 0,.int .u32 0,.int .u32 0,.int .u32 0,.int .u32 0,.int .u32 0,.int .u32 0,.int .u32 0,.int .u32 0,.int .u32 0,.int .u32 0,.int .u32 0,.int .u32 0,.int .u32 0,.int .u32 0,.int .u32 0,.int .u32 0,.int .u32 0,.int .u32 0,.int .u32 0,.int .u32 0] 403)).setCells w'.heap.size 0 (cW ws))=W2 at *
 generalize w'.heap.size=N at *
 clear w'
 have c0:W2.cell? ⟨w.heap.size,0,none⟩=some (.int .u32 s0):=cell_cW0 hFo.st (i:=0) (by simp)
 have c1:W2.cell? ⟨w.heap.size,1,none⟩=some (.int .u32 s1):=cell_cW0 hFo.st (i:=1) (by simp)
 have c2:W2.cell? ⟨w.heap.size,2,none⟩=some (.int .u32 s2):=cell_cW0 hFo.st (i:=2) (by simp)
 have c3:W2.cell? ⟨w.heap.size,3,none⟩=some (.int .u32 s3):=cell_cW0 hFo.st (i:=3) (by simp)
 have c4:W2.cell? ⟨w.heap.size,4,none⟩=some (.int .u32 s4):=cell_cW0 hFo.st (i:=4) (by simp)
 have c5:W2.cell? ⟨w.heap.size,5,none⟩=some (.int .u32 s5):=cell_cW0 hFo.st (i:=5) (by simp)
 have c6:W2.cell? ⟨w.heap.size,6,none⟩=some (.int .u32 s6):=cell_cW0 hFo.st (i:=6) (by simp)
 have c7:W2.cell? ⟨w.heap.size,7,none⟩=some (.int .u32 s7):=cell_cW0 hFo.st (i:=7) (by simp)
 go_region_held3 (fun w'=>w'.cell? ⟨w.heap.size,0,none⟩=some (.int .u32 s0)∧w'.cell? ⟨w.heap.size,1,none⟩=some (.int .u32 s1)∧w'.cell? ⟨w.heap.size,2,none⟩=some (.int .u32 s2)∧w'.cell? ⟨w.heap.size,3,none⟩=some (.int .u32 s3)) (first | assumption | (refine ⟨?_,?_,?_,?_⟩ <;> first | assumption | (rw [World.cell?_drew]; assumption))) (fail)
 go_wp2
 go_region_held3 (fun w'=>w'.cell? ⟨w.heap.size,4,none⟩=some (.int .u32 s4)∧w'.cell? ⟨w.heap.size,5,none⟩=some (.int .u32 s5)∧w'.cell? ⟨w.heap.size,6,none⟩=some (.int .u32 s6)∧w'.cell? ⟨w.heap.size,7,none⟩=some (.int .u32 s7)) (first | assumption | (refine ⟨?_,?_,?_,?_⟩ <;> first | assumption | (rw [World.cell?_drew]; assumption))) (fail)
 clear c0 c1 c2 c3 c4 c5 c6 c7
 go_wp2
 go_loopg [6,7,8,9,10,11,12,13,35] 64 (fun gk a b c d e f g h i wr => ∃ (k:Nat) (v:S8),k≤64∧gk=64 - k∧i = .int .i64 k∧Hid (v=rnds (s8of [s0,s1,s2,s3,s4,s5,s6,s7]) rs ws k)∧a = .int .u32 v.a∧b = .int .u32 v.b∧c = .int .u32 v.c∧d = .int .u32 v.d∧e = .int .u32 v.e∧f = .int .u32 v.f∧g = .int .u32 v.g∧h = .int .u32 v.h∧Fo w wr [s0,s1,s2,s3,s4,s5,s6,s7] ws rs N)
 case atStart =>
  go_light
  exact ⟨0,s8of [s0,s1,s2,s3,s4,s5,s6,s7],Nat.zero_le _,rfl,rfl,rfl,rfl,rfl,rfl,rfl,rfl,rfl,rfl,rfl,hFo.drew.drew⟩
 case round =>
  clear hFo
  obtain ⟨k,v,hk,rfl,rfl,hv,rfl,rfl,rfl,rfl,rfl,rfl,rfl,rfl,hFo⟩:=hrel
  by_cases hlt:k<64
  ·have hk0:(0:Int)≤(k:Int):=Int.natCast_nonneg _
   have hk8:(k:Int)<64:=by omega
   have cr:=cell_cW0 hFo.rs (i:=k) (by omega)
   have cw:=cell_cW0 hFo.ws (i:=k) (by omega)
   have HV:Hid (∀ v',v'=v.rnd (rs.getD k 0) (ws.getD k 0)→v'=rnds (s8of [s0,s1,s2,s3,s4,s5,s6,s7]) rs ws (k+1)):=fun v' h=>by
    rw [h,show v=rnds (s8of [s0,s1,s2,s3,s4,s5,s6,s7]) rs ws k from hv]; rfl
   have HF:Hid (Fo w wr.drew [s0,s1,s2,s3,s4,s5,s6,s7] ws rs N):=hFo.drew
   clear hFo hv
   generalize rs.getD k 0=r at *
   generalize ws.getD k 0=x at *
   obtain ⟨a,b,c,d,e,f,g,h⟩:=v
   dsimp only at *
   go_wp2
   go_region_held3 (fun w'=>w'.cell? ⟨3,k,none⟩=some (.int .u32 r)∧w'.cell? ⟨N,k,none⟩=some (.int .u32 x)) (first | assumption | (refine ⟨?_,?_⟩ <;> first | assumption | (rw [World.cell?_drew]; assumption))) (first | (go_at_call 412; refine (turned_any _ _ _ (by decide) (by decide)).mono ?_; rintro e w' ⟨rfl,rfl⟩))
   go_wp2_with (go_at_call 412; refine (turned_any _ _ _ (by decide) (by decide)).mono ?_; rintro e w' ⟨rfl,rfl⟩)
   go_roundg (64 - (k+1))
   case rel =>
    go_light
    refine ⟨k+1,_,by omega,rfl,by go_num,HV.out _ rfl,?_,rfl,rfl,rfl,?_,rfl,rfl,rfl,HF.out⟩ <;> simp only [S8.rnd,oneI,twoI,IntKind.wrap_u32']
   case measure=>go_light; omega
  ·obtain rfl:k=64:=by omega
   clear hk hlt
   have c0:wr.cell? ⟨w.heap.size,0,none⟩=some (.int .u32 s0):=cell_cW0 hFo.st (i:=0) (by simp)
   have c1:wr.cell? ⟨w.heap.size,1,none⟩=some (.int .u32 s1):=cell_cW0 hFo.st (i:=1) (by simp)
   have c2:wr.cell? ⟨w.heap.size,2,none⟩=some (.int .u32 s2):=cell_cW0 hFo.st (i:=2) (by simp)
   have c3:wr.cell? ⟨w.heap.size,3,none⟩=some (.int .u32 s3):=cell_cW0 hFo.st (i:=3) (by simp)
   have c4:wr.cell? ⟨w.heap.size,4,none⟩=some (.int .u32 s4):=cell_cW0 hFo.st (i:=4) (by simp)
   have c5:wr.cell? ⟨w.heap.size,5,none⟩=some (.int .u32 s5):=cell_cW0 hFo.st (i:=5) (by simp)
   have c6:wr.cell? ⟨w.heap.size,6,none⟩=some (.int .u32 s6):=cell_cW0 hFo.st (i:=6) (by simp)
   have c7:wr.cell? ⟨w.heap.size,7,none⟩=some (.int .u32 s7):=cell_cW0 hFo.st (i:=7) (by simp)
   have hres:=hFo.res
   have hbel:=hFo.below
   clear hFo
   have HV:Hid (foldI rs [s0,s1,s2,s3,s4,s5,s6,s7] blk=sumI ⟨s0,s1,s2,s3,s4,s5,s6,s7⟩ v):=by
    show _=_
    rw [show v=_ from hv,show ws=_ from HE]; rfl
   clear hv
   obtain ⟨a,b,c,d,e,f,g,h⟩:=v
   dsimp only at *
   go_wp2_with (refine wpList_store_mid rfl 346 _ _ rfl (w.heap.size+1+1) 0 (cW [_,_,_,_,_,_,_,_]).toArray rfl rfl hres size34 (all_oneCell_toArray (cW_one _)) ?_)
   refine bodyPost_ret (v := .agg (cW (sumI ⟨s0,s1,s2,s3,s4,s5,s6,s7⟩ ⟨a,b,c,d,e,f,g,h⟩)).toArray) ?_ rfl ⟨by rw [HV.out],?_⟩
   ·refine results_cell_mid Tryz.results404 _ _ (w.heap.size+1+1) 0 (cW (sumI ⟨s0,s1,s2,s3,s4,s5,s6,s7⟩ ⟨a,b,c,d,e,f,g,h⟩)) (.array 8 110) ?_ ?_ Tryz.underlying346 rfl size34
    ·rfl
    ·go_light
     simp only [sumI,IntKind.wrap_u32']
     exact World.rangeAt_setCells_same _ _ _ _ hres
   ·go_light
    exact below_setCells hbel (by omega) _ _
end Go.Proofs.YtoblgjledefdbaaGreatDoor
