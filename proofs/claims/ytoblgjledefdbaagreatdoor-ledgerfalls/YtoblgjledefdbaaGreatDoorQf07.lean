/- Own work. -/
import Derived.Laws.IdiomStrings
import Derived.Handy
import Derived.Deep.AppendSrc
import Derived.Deep.Upon
import Derived.Deep.RegionLaw
import Derived.Deep.OwnRows
import Derived.BigQuiet
import Derived.Test.YtoblgjledefdbaaGreatDoorQf06
namespace Go.Proofs.YtoblgjledefdbaaGreatDoor.St.Rc
open Go.RowKit
theorem ext_take (s:ByteArray) (k:Nat):(s.extract 0 k).data.toList=s.data.toList.take k:=by
 rw [ByteArray.data_extract,Array.toList_extract,List.extract_eq_take_drop,List.drop_zero,Nat.sub_zero]
structure Upo (S:Nat→Prop) (w w':World):Prop where
 os:w'.os=w.os
 tape:w'.tape=w.tape
 output:w'.output=w.output
 size:w.heap.size≤w'.heap.size
 block : ∀ b,b<w.heap.size → ¬ S b→w'.heap[b]? = w.heap[b]?
section
variable {S T:Nat→Prop} {w w' w1 w2:World}
theorem Upo.refl (S:Nat→Prop) (w:World):Upo S w w:=⟨rfl,rfl,rfl,Nat.le_refl _,fun _ _ _=>rfl⟩
theorem Upo.of (h:Below w.heap.size w w'):Upo S w w':=⟨h.os,h.tape,h.output,h.size,fun b hb _=>h.block b hb⟩
theorem Upo.trans (h:Upo S w w1) (h2:Upo T w1 w2) (hT : ∀ b,b<w.heap.size→T b→S b):Upo S w w2 :=
 ⟨h2.os.trans h.os,h2.tape.trans h.tape,h2.output.trans h.output,Nat.le_trans h.size h2.size,fun b hb hs=>(h2.block b (Nat.lt_of_lt_of_le hb h.size) fun ht=>hs (hT b hb ht)).trans (h.block b hb hs)⟩
theorem Upo.on (h:Upo S w w1) (h2:Upo S w1 w2):Upo S w w2:=h.trans h2 fun _ _ q=>q
theorem Upo.below (h:Upo S w w') {B:Nat} (hB:B≤w.heap.size) (hS : ∀ b,S b→B≤b):Below B w w' :=
 ⟨h.os,h.tape,h.output,h.size,fun b hb=>h.block b (by omega) fun hs=>by have:=hS b hs; omega⟩
theorem Upo.set (h:Upo S w w') (b i:Nat) (v:Value) (hb:S b∨w.heap.size≤b):Upo S w (w'.setCell ⟨b,i,none⟩ v):=by
 refine ⟨h.os,h.tape,h.output,by simpa using h.size,fun c hc hs => ?_⟩
 rw [← h.block c hc hs]
 exact Below.heap_setCell _ _ _ _ (by show c≠b; rintro rfl; rcases hb with hb | hb; exact hs hb; omega)
theorem Upo.sets {g:Nat} (hg:S g∨w.heap.size≤g) : ∀ (vs:List Value) (o:Nat) (w':World),Upo S w w'→Upo S w (w'.setCells g o vs)
 | [],_,_,h=>h
 | v::r,o,_,h=>Upo.sets hg r (o+1) _ (h.set g o v hg)
theorem Upo.since {g:Nat} (h:Upo (fun b=>b=g) w1 w2) (h1:Below w.heap.size w w1) (hg:w.heap.size≤g):Below w.heap.size w w2 :=
 h1.trans (h.below h1.size fun b hb=>by omega)
end
theorem new1 (w:World) (o:Obj):(w.alloc o).heap[w.heap.size]? = some o:=(MapKept.heap_alloc w o).1
def cY (l:List UInt8):List Value:=l.map fun b=>Value.int .u8 (b.toNat:Int)
theorem cY_len (l:List UInt8):(cY l).length=l.length:=by simp [cY]
theorem cY_app (l m:List UInt8):cY (l++m)=cY l++cY m:=by simp [cY]
theorem cY_one (l:List UInt8) : ∀ u∈cY l,u.oneCell'=true:=fun u hu=>by obtain ⟨_,_,rfl⟩:=List.mem_map.1 hu; rfl
theorem Tryz.infoY:(Tryz.prog.info? 5).map (fun i=>(i.zero,i.size,i.bytes))=some (some (.int .u8 0),1,1):=by kernel_rfl
structure Byt (w:World) (g:Nat) (l:List UInt8):Prop where
 rng:w.rangeAt g 0 (cY l)
 thr:w.there g 0 l.length
section
variable {w W:World} {g:Nat} {l:List UInt8}
theorem Byt.at (h:Byt w g l) {j:Nat} (hj:j<l.length):w.cell? ⟨g,j,none⟩=some (.int .u8 ((l.getD j 0).toNat:Int)):=by
 have:=h.rng j (.int .u8 ((l.getD j 0).toNat:Int)) (by simp [cY,List.getElem?_eq_getElem hj,List.getD_eq_getElem?_getD])
 rwa [Nat.zero_add] at this
theorem Byt.free (h:Byt w g l) {j:Nat} (hj:j<l.length):w.frozen? ⟨g,j,none⟩=false:=by
 have:=(h.thr j hj).2
 rwa [Nat.zero_add] at this
theorem Byt.lt (h:Byt w g l) (h0:0<l.length):g<w.heap.size:=World.block_lt_of_cell? _ _ (h.at h0)
theorem there_set {b o n:Nat} (h:w.there b o n) (a:Addr) (v:Value):(w.setCell a v).there b o n:=fun j hj=>by
 obtain ⟨h1,h2⟩:=h j hj
 refine ⟨?_,by rw [World.frozen?_setCell]; exact h2⟩
 by_cases e:a=⟨b,o+j,none⟩
 ·subst e
  obtain ⟨u,hu⟩:=Option.isSome_iff_exists.1 h1
  rw [World.cell?_setCell_same w _ v hu]; rfl
 ·rw [World.cell?_setCell_other _ _ _ _ e]; exact h1
theorem range_set {b o:Nat} {cs:List Value} (h:w.rangeAt b o cs) (i:Nat) (v:Value):(w.setCell ⟨b,o+i,none⟩ v).rangeAt b o (cs.set i v):=fun j u hu=>by
 rw [List.getElem?_set] at hu
 split at hu
 ·rename_i e
  subst e
  split at hu
  ·rename_i hl
   cases hu
   have:=h i cs[i] (List.getElem?_eq_getElem hl)
   exact World.cell?_setCell_same w _ _ this
  ·cases hu
 ·rename_i e
  rw [World.cell?_setCell_other _ _ _ _ (fun e'=>e (by have:=congrArg Addr.off e'; simp at this; omega))]
  exact h j u hu
theorem Byt.set (h:Byt w g l) (j:Nat) (b:UInt8) (x:Int) (hx:x=(b.toNat:Int)):Byt (w.setCell ⟨g,j,none⟩ (.int .u8 x)) g (l.set j b):=by
 subst hx
 refine ⟨?_,by rw [List.length_set]; exact there_set h.thr _ _⟩
 have:=range_set h.rng j (.int .u8 (b.toNat:Int))
 rw [Nat.zero_add] at this
 rw [cY,List.map_set]; exact this
theorem Byt.same (h:Byt w g l) (hb:W.heap[g]? = w.heap[g]?):Byt W g l:=by
 refine ⟨fun j v hv => ?_,fun j hj => ?_⟩
 ·rw [World.cell?_of_block (a:=⟨g,0+j,none⟩) hb]; exact h.rng j v hv
 ·rw [World.cell?_of_block (a:=⟨g,0+j,none⟩) hb,World.frozen?_of_block (a:=⟨g,0+j,none⟩) hb]; exact h.thr j hj
theorem Byt.next {B:Nat} (h:Byt w g l) (hb:Below B w W) (hg:g<B):Byt W g l:=h.same (hb.block g hg)
theorem byt_new (w:World) (s:ByteArray) (cap:Nat) (t:TypeId):Byt (w.alloc (.cells (bytesRow s cap) t ((bytesRow s cap).size,(bytesRow s cap).size+1))) w.heap.size s.data.toList:=by
 have hsz:s.data.size≤(bytesRow s cap).size:=by simp [bytesRow]
 have hc : ∀ j,(hj:j<s.data.size)→(w.alloc (.cells (bytesRow s cap) t ((bytesRow s cap).size,(bytesRow s cap).size+1))).cell? ⟨w.heap.size,j,none⟩=some (.int .u8 (s.data[j].toNat:Int)):=fun j hj=>by
  rw [World.cell?_alloc_mark,bytesRow_at s cap j hj]
 refine ⟨fun j v hv => ?_,fun j hj => ?_⟩
 ·have hj:j<s.data.size:=by have:=(List.getElem?_eq_some_iff.1 hv).1; rw [cY_len,Array.length_toList] at this; exact this
  rw [Nat.zero_add,hc j hj,← hv]
  simp [cY,Array.getElem?_eq_getElem hj]
 ·rw [Array.length_toList] at hj
  rw [Nat.zero_add,hc j hj,World.frozen?_alloc_mark]
  refine ⟨rfl,?_⟩
  rw [decide_eq_false (by omega)]; rfl
theorem there_new (w:World) (cs:Array Value) (t:TypeId) (n:Nat) (hn:n≤cs.size):(w.alloc (.cells cs t)).there w.heap.size 0 n:=fun j hj=>by
 refine ⟨?_,World.frozen?_alloc_new _ _ _ _⟩
 rw [World.cell?_alloc_new,Nat.zero_add,Array.getElem?_eq_getElem (by omega)]; rfl
theorem byt_made (w:World) (n:Nat):Byt (w.alloc (.cells (Array.replicate n (Value.int .u8 0)) 5)) w.heap.size (zer n):=by
 refine ⟨fun j v hv => ?_,there_new w _ _ _ (by simp [zer])⟩
 rw [World.cell?_alloc_new,Nat.zero_add]
 have:cY (zer n)=List.replicate n (Value.int .u8 0):=by simp [cY,zer]
 rw [this] at hv
 rw [← hv]
 simp [Array.getElem?_replicate,List.getElem?_replicate]
theorem madeCells_one (v:Value) (n:Nat):madeCells #[v] n=Array.replicate n v:=by
 apply Array.ext
 ·simp [size_madeCells]
 ·intro i h1 h2
  simp [madeCells,Nat.mod_one]
theorem make_bytes (n:Nat) (hn:n≤140737488355328) (u:World):(Instr.makeSlice 127 (.int .i64 (n:Int)) (.int .i64 (n:Int))).run Tryz.prog u = .ok (.slice (some ⟨u.heap.size,0,none⟩) n n) (u.alloc (.cells (Array.replicate n (Value.int .u8 0)) 5)):=by
 have:=run_make_row' (P:=Tryz.prog) 127 5 (.int .u8 0) 1 Tryz.underlying127 Tryz.infoY rfl .i64 .i64 n (by omega) (by omega) u
 rw [this,madeCells_one]
theorem Byt.conv (h:Byt w g l) {k n:Nat} (hk:k+n≤l.length) (o:Nat) (ho:0<n→o=k) (m:Nat) (t:ByteArray) (ht:(⟨((l.drop k).take n).toArray⟩:ByteArray)=t) :
  (convert 127 9 (.slice (some ⟨g,o,none⟩) n m)).run Tryz.prog w = .ok (.string t) w:=by
 subst ht
 have hlen:((l.drop k).take n).length=n:=by simp; omega
 have hr:=run_convert_bytes_back w 127 9 5 ⟨g,o,none⟩ m ((l.drop k).take n) Tryz.underlying127 Tryz.underlying5 Tryz.underlying9 fun j hj => ?_
 ·rw [hlen] at hr; exact hr
 ·rw [hlen] at hj
  obtain rfl:=ho (by omega)
  rw [Addr.add_mid,h.at (by omega)]
  have:(List.take n (List.drop o l))[j]'(by omega)=l.getD (o+j) 0:=by
   rw [List.getElem_take,List.getElem_drop,List.getD_eq_getElem?_getD,List.getElem?_eq_getElem (by omega)]; rfl
  rw [this]
theorem range_mid {b o:Nat} {cs:List Value} (h:w.rangeAt b o cs) (k:Nat) (vs:List Value) (hk:k+vs.length≤cs.length) (ht:w.there b (o+k) vs.length) :
  (w.setCells b (o+k) vs).rangeAt b o (cs.take k++vs++cs.drop (k+vs.length)):=fun j u hu=>by
 have hlen:(cs.take k).length=k:=by simp; omega
 by_cases hj:j<k
 ·rw [List.append_assoc,List.getElem?_append_left (by omega),List.getElem?_take,if_pos hj] at hu
  rw [World.cell?_setCells_out b vs (o+k) w ⟨b,o+j,none⟩ (fun _ _=>Or.inl (by show o+j<o+k; omega))]
  exact h j u hu
 ·by_cases hj2:j<k+vs.length
  ·rw [List.getElem?_append_left (by simp; omega),List.getElem?_append_right (by omega),hlen] at hu
   have:=World.cell?_setCells_in b vs (o+k) w (fun i hi=>(ht i hi).1) (j - k) (by omega)
   rw [show o+k+(j - k)=o+j by omega] at this
   rw [this,← hu,List.getElem?_eq_getElem (by omega)]
  ·rw [List.getElem?_append_right (by simp; omega)] at hu
   rw [List.getElem?_drop,show k+vs.length+(j - (cs.take k++vs).length)=j by simp; omega] at hu
   rw [World.cell?_setCells_out b vs (o+k) w ⟨b,o+j,none⟩ (fun _ _=>Or.inr (by show o+k+vs.length≤o+j; omega))]
   exact h j u hu
def ovr (l:List UInt8) (k:Nat) (t:List UInt8):List UInt8:=l.take k++t++l.drop (k+t.length)
theorem ovr_len (l:List UInt8) (k:Nat) (t:List UInt8) (h:k+t.length≤l.length):(ovr l k t).length=l.length:=by
 simp only [ovr,List.length_append,List.length_take,List.length_drop]
 omega
theorem Byt.over (h:Byt w g l) (k:Nat) (t:List UInt8) (hk:k+t.length≤l.length):Byt (w.setCells g k (cY t)) g (ovr l k t):=by
 refine ⟨?_,by rw [ovr_len l k t hk]; exact World.there_setCells h.thr _ _ _⟩
 have:=range_mid h.rng k (cY t) (by rw [cY_len,cY_len]; exact hk) (fun j hj=>by
  rw [Nat.zero_add]
  have:=h.thr (k+j) (by rw [cY_len] at hj; omega)
  rwa [Nat.zero_add] at this)
 rw [Nat.zero_add] at this
 rw [ovr,cY_app,cY_app]
 simpa [cY,List.map_take,List.map_drop] using this
theorem run_copy (ty:TypeId) {k n m o:Nat} {t:ByteArray} (h:Byt w g l) (hn:k+n≤l.length) (ho:0<t.size→o=k) (ht:t.size≤n) :
  (Builtin.copy_ #[127,9] ty #[.slice (some ⟨g,o,none⟩) n m,.string t]).run Tryz.prog w = .ok (goInt t.size) (w.setCells g k (cY t.data.toList)):=by
 have hs : ∀ W,(Go.sizeOf 5).run Tryz.prog W = .ok 1 W:=fun W=>by kernel_rfl
 have hc:Nat.min t.size n=t.size:=Nat.min_eq_left ht
 have hl:(cY t.data.toList).length=t.size:=by rw [cY_len,size_list]
 have he:List.take t.size (List.map (fun x:UInt8=>Value.int IntKind.u8 (x.toNat:Int)) t.data.toList)=cY t.data.toList:=by
  rw [cY,← List.map_take,List.take_of_length_le (by rw [size_list]; exact Nat.le_refl _)]
 by_cases z:t.size=0
 ·have e0:cY t.data.toList=[]:=List.length_eq_zero_iff.1 (by rw [hl,z])
  rw [e0]
  simp [Builtin.copy_,run_underlying Tryz.underlying127,Builtin.lenOf,Builtin.firstCells,hs,z]
  rfl
 ·obtain rfl:=ho (by omega)
  have hst:=run_storeCells_cells (P:=Tryz.prog) g o (cY t.data.toList) 0 w (by rw [hl]; intro j hj; have:=h.thr (o+j) (by omega); simpa using this.1) (by rw [hl]; intro j hj; have:=h.thr (o+j) (by omega); simpa using this.2) (cY_one _)
  simp only [Nat.add_zero] at hst
  simp [Builtin.copy_,run_underlying Tryz.underlying127,Builtin.lenOf,Builtin.firstCells,hs,hc]
  rw [he,hst]
  rfl
end
theorem wpList_copy_at {w w':World} {ops:Array Oper} {rest:List Oper} {o:Oper} {a:Act} {Q:Exit→Act→World→Prop} (hgd:o.guard=none) (d s:Operand) (t u:TypeId)
  (ho:o.op = .call { callee := .builtin .copy,args:=#[d,s],argTypes:=#[t,u] }) {v x v':Value} (hd:a.eval d=v) (hs:a.eval s=x)
  (hr:(Builtin.copy_ #[t,u] o.type #[v,x]).run Tryz.prog w = .ok v' w') (h:wpList Tryz.prog ops Q rest (a.put o.dst v') w'):wpList Tryz.prog ops Q (o::rest) a w:=by
 refine wpList_plain hgd fun K hK => ?_
 unfold Oper.wp
 simp [execOp,ho,resolve,invoke,builtin,hd,hs,hr,Result.andThen]
 exact hK _ _ h
end Go.Proofs.YtoblgjledefdbaaGreatDoor.St.Rc
namespace Go.Proofs.YtoblgjledefdbaaGreatDoor.St.Rc
open Go.RowKit
attribute [local go_sem ↓] Go.wp_at_zero Go.wp_at_succ
theorem ovr_step (l:List UInt8) (a:Nat) (t r:List UInt8) (x:UInt8) (ha:a<l.length):(l.take (a+1)++t++r).set a x=l.take a++x::t++r:=by
 have e:(l.take a).length=a:=by simp; omega
 rw [List.take_succ_eq_append_getElem ha,List.append_assoc,List.append_assoc,List.set_append_right _ _ (by omega),e,Nat.sub_self]
 simp
set_option maxRecDepth 100000 in
set_option maxHeartbeats 1000000 in
theorem put_any (w:World) (g off len cap n:Nat) (l:List UInt8) (hl:Byt w g l) (ho:off+len≤l.length) (h8:len≤8) (hn:n<18446744073709551616) :
  Calls Tryz.prog 264 #[.slice (some ⟨g,off,none⟩) len cap,.int .u64 (n:Int)] w fun e w'=>e = .returned (.tuple #[])∧Byt w' g (ovr l off (big len n))∧Upo (fun b=>b=g) w w':=by
 have HO:Hid (off+len≤l.length):=ho
 have H0:Hid (Byt w g (l.take (off+len)++big 0 n++l.drop (off+len))∧Upo (fun b=>b=g) w w):=⟨by simp [big]; exact hl,Upo.refl _ _⟩
 have k8:(len:Int)≤8:=by omega
 have k0:(0:Int)≤(len:Int):=by omega
 have hN:Hid (n<18446744073709551616):=hn
 clear hl ho hn
 go_enter Tryz.func264,Tryz.ntmps264
 go_wp2
 go_loopg [1,4] len (fun G x i wr => ∃ (j d:Nat),j+d=len∧j=G∧x = .int .u64 ((n / 256^d:Nat):Int)∧i = .int .i64 ((j:Int) - 1)∧Hid (Byt wr g (l.take (off+j)++big d n++l.drop (off+len))∧Upo (fun b=>b=g) w wr))
 case atStart =>
  go_light
  exact ⟨len,0,by omega,rfl,by simp,by simp,H0⟩
 case round =>
  clear H0
  obtain ⟨j,d,hj,rfl,rfl,rfl,HB⟩:=hrel
  have hx:n / 256^d≤n:=Nat.div_le_self _ _
  by_cases hz:0<j
  ·obtain ⟨m,rfl⟩ : ∃ m,j=m+1:=⟨j - 1,by omega⟩
   have em:((m+1:Nat):Int) - 1=(m:Int):=by omega
   rw [em]
   have m0:(0:Int)≤(m:Int):=by omega
   have m1:(m:Int)<(len:Int):=by omega
   have hol:=HO.out
   have cl:=HB.out.1.at (j:=off+m) (by simp [big_len]; omega)
   have fz:=HB.out.1.free (j:=off+m) (by simp [big_len]; omega)
   obtain ⟨z,hz'⟩ : ∃ z,((l.take (off+(m+1))++big d n++l.drop (off+len)).getD (off+m) 0).toNat=z:=⟨_,rfl⟩
   rw [hz'] at cl
   obtain ⟨x,hxd⟩ : ∃ x,n / 256^d=x:=⟨_,rfl⟩
   have hx2:Hid (x<18446744073709551616):=by show _<_; have:=hN.out; omega
   have HX:Hid (Byt (wr.setCell ⟨g,off+m,none⟩ (.int .u8 ((x:Int) % 256))) g (l.take (off+m)++big (d+1) n++l.drop (off+len))∧Upo (fun b=>b=g) w (wr.setCell ⟨g,off+m,none⟩ (.int .u8 ((x:Int) % 256)))):=by
    refine ⟨?_,HB.out.2.set _ _ _ (.inl rfl)⟩
    have:=HB.out.1.set (off+m) (UInt8.ofNat x) ((x:Int) % 256) (by rw [UInt8.toNat_ofNat']; omega)
    rw [show off+(m+1)=off+m+1 by omega,ovr_step l (off+m) _ _ _ (by omega)] at this
    rw [big_cons,hxd]
    exact this
   have HD:Hid (x / 256=n / 256^(d+1)):=by
    show _=_
    rw [Nat.pow_succ,← Nat.div_div_eq_div_mul,hxd]
   rw [hxd]
   clear HB hxd hz' hx hol
   go_wp2
   go_roundg m
   case rel =>
    go_light
    refine ⟨m,d+1,by omega,rfl,?_,?_,HX⟩
    ·have:=HD.out; rw [← this]; go_num
    ·go_num
   case measure=>go_light; omega
  ·obtain rfl:j=0:=by omega
   obtain rfl:d=len:=by omega
   have em:((0:Nat):Int) - 1 = -1:=by omega
   rw [em]
   have HE:Hid (Byt wr g (ovr l off (big d n))∧Upo (fun b=>b=g) w wr):=by
    refine ⟨?_,HB.out.2⟩
    have:=HB.out.1
    rw [Nat.add_zero] at this
    rw [ovr,big_len]; exact this
   clear HB hx hj
   go_wp2
   exact bodyPost_end (results_none rfl _ Tryz.prog wr) rfl ⟨rfl,HE.out⟩
theorem num_step (l:List UInt8) (k:Nat) (hk:k<l.length):num (l.take (k+1))=num (l.take k) * 256+(l.getD k 0).toNat:=by
 rw [List.take_succ_eq_append_getElem hk,num_snoc,List.getD_eq_getElem?_getD,List.getElem?_eq_getElem hk]
 rfl
theorem or_byte (x y:Nat) (hx:x<72057594037927936) (hy:y<256):bits .or .u64 (IntKind.u64.wrap ((x:Int) * 256)) (y:Int)=((x * 256+y:Nat):Int):=by
 have e:IntKind.u64.wrap ((x:Int) * 256)=((x * 256:Nat):Int):=by rw [IntKind.wrap_u64]; omega
 rw [e,u64_or_nat _ _ (by omega) (by omega),show x * 256=x <<< 8 by rw [Nat.shiftLeft_eq],← Nat.shiftLeft_add_eq_or_of_lt (show y<2^8 by omega)]
set_option maxRecDepth 100000 in
set_option maxHeartbeats 1000000 in
theorem number_any (w:World) (g off len cap:Nat) (l:List UInt8) (hl:Byt w g l) (ho:off+len≤l.length) (h8:len≤8) (r:Nat) (hr:num ((l.drop off).take len)=r) :
  Calls Tryz.prog 321 #[.slice (some ⟨g,off,none⟩) len cap] w fun e w'=>e = .returned (.int .u64 (r:Int))∧w'=w:=by
 obtain ⟨t,ht⟩ : ∃ t,(l.drop off).take len=t:=⟨_,rfl⟩
 have htl:t.length=len:=by rw [← ht]; simp; omega
 have HC:Hid (∀ k,k<len→w.cell? ⟨g,off+k,none⟩=some (.int .u8 ((t.getD k 0).toNat:Int))):=fun k hk=>by
  rw [hl.at (by omega),← ht]
  simp [List.getD_eq_getElem?_getD,List.getElem?_drop,hk]
 rw [ht] at hr
 have HR:Hid (num t=r∧t.length=len):=⟨hr,htl⟩
 have k8:(len:Int)≤8:=by omega
 have k0:(0:Int)≤(len:Int):=by omega
 clear hl ho ht hr htl
 go_enter Tryz.func321,Tryz.ntmps321
 go_wp2
 go_loopg [3,8] len (fun G x i wr=>w=wr ∧ ∃ (k m:Nat),k≤len∧G=len - k∧x = .int .u64 (m:Int)∧i = .int .i64 (k:Int)∧Hid (num (t.take k)=m))
 case atStart =>
  go_light
  exact ⟨rfl,0,0,by omega,rfl,rfl,rfl,rfl⟩
 case round =>
  obtain ⟨rfl,k,m,hk,rfl,rfl,rfl,HM⟩:=hrel
  by_cases hlt:k<len
  ·have hz:(k:Int)<(len:Int):=by omega
   have kk:(0:Int)≤(k:Int):=by omega
   have cl:=HC.out k hlt
   have hb:(t.getD k 0).toNat<256:=(t.getD k 0).toNat_lt
   have hst:=num_step t k (by rw [HR.out.2]; exact hlt)
   rw [HM.out] at hst
   have hm:m<72057594037927936:=by
    rw [← HM.out]
    exact num_le _ 7 (by simp; omega)
   obtain ⟨y,hy⟩ : ∃ y,(t.getD k 0).toNat=y:=⟨_,rfl⟩
   rw [hy] at cl hb hst
   have eo:=or_byte m y hm hb
   rw [← hst] at eo
   have e1:(y:Int) % 18446744073709551616=(y:Int):=by omega
   obtain ⟨v,hv⟩ : ∃ v,num (t.take (k+1))=v:=⟨_,rfl⟩
   rw [hv] at eo hst
   have HV:Hid (num (t.take (k+1))=v):=hv
   clear HM hv hst hm hb hy
   go_wp2
   go_roundg (len - (k+1))
   case rel =>
    go_light
    exact ⟨rfl,k+1,v,by omega,rfl,rfl,by go_num,HV⟩
   case measure=>go_light; omega
  ·obtain rfl:k=len:=by omega
   have hz : ¬ (k:Int)<(k:Int):=by omega
   have HE:Hid (m=r):=by
    show _=_
    have:=HM.out
    rw [List.take_of_length_le (by rw [HR.out.2]; exact Nat.le_refl _),HR.out.1] at this
    exact this.symm
   clear HM
   go_wp2
   go_ret
   exact ⟨by rw [HE.out]; rfl,rfl⟩
set_option maxRecDepth 100000 in
theorem strength_any (w:World) (k:Int):Calls Tryz.prog 272 #[.int .i64 k] w fun e w'=>e = .returned (.bool (decide (1≤k∧k≤32)))∧w'=w:=by
 by_cases h1:1≤k
 ·by_cases h2:k≤32
  ·have e:decide (1≤k∧k≤32)=true:=by simp [h1,h2]
   rw [e]
   go_enter Tryz.func272,Tryz.ntmps272
   go_wp2
   go_ret
   exact ⟨rfl,rfl⟩
  ·have e:decide (1≤k∧k≤32)=false:=by simp [h2]
   rw [e]
   go_enter Tryz.func272,Tryz.ntmps272
   go_wp2
   go_ret
   exact ⟨rfl,rfl⟩
 ·have e:decide (1≤k∧k≤32)=false:=by simp [h1]
  rw [e]
  go_enter Tryz.func272,Tryz.ntmps272
  go_wp2
  go_ret
  exact ⟨rfl,rfl⟩
set_option maxRecDepth 100000 in
theorem pparts_any (w:World) (g n cap:Nat) (h8:8≤n) (hc:n≤cap) (hm:n≤140737488355328) (o:Nat) (ho:(if n - 4=4 then 0 else 4)=o) (m:Nat) (hm2:n - 8=m) :
  Calls Tryz.prog 263 #[.slice (some ⟨g,0,none⟩) n cap] w fun e w'=>e = .returned (.tuple #[.slice (some ⟨g,0,none⟩) 4 4,.slice (some ⟨g,o,none⟩) m m])∧Below w.heap.size w w':=by
 have z1:(0:Int)≤(n:Int) - 4:=by omega
 have z2:(n:Int) - 4≤(cap:Int):=by omega
 have z3:(4:Int)≤(n:Int) - 4:=by omega
 have z4:(4:Int)≤(cap:Int):=by omega
 have z5:(n:Int)≤140737488355328:=by omega
 have HO:Hid ((if n - 4=4 then 0 else 4)=o∧n - 4 - 4=m):=⟨ho,by omega⟩
 clear ho hm2
 go_enter Tryz.func263,Tryz.ntmps263
 go_wp2
 go_quiet (fail)
 go_wp2
 ·obtain ⟨h1,h2⟩:=HO.out
  rw [if_pos h] at h1
  obtain rfl:m=0:=by omega
  subst h1
  exact bodyPost_ret (v := .tuple #[.slice (some ⟨g,0,none⟩) 4 4,.slice (some ⟨g,0,none⟩) 0 0]) (by simp [results,Tryz.results263,go_sem]) rfl ⟨rfl,below_drewN (Below.refl _ _) _⟩
 ·obtain ⟨h1,h2⟩:=HO.out
  rw [if_neg h] at h1
  rw [h2]
  subst h1
  exact bodyPost_ret (v := .tuple #[.slice (some ⟨g,0,none⟩) 4 4,.slice (some ⟨g,4,none⟩) m m]) (by simp [results,Tryz.results263,go_sem]) rfl ⟨rfl,below_drewN (Below.refl _ _) _⟩
set_option maxRecDepth 100000 in
theorem nparts_any (w:World) (g n cap:Nat) (h8:36≤cap) :
  Calls Tryz.prog 333 #[.slice (some ⟨g,0,none⟩) n cap] w fun e w'=>e = .returned (.tuple #[.slice (some ⟨g,0,none⟩) 32 32,.slice (some ⟨g,32,none⟩) 4 4])∧Below w.heap.size w w':=by
 have z1:(36:Int)≤(cap:Int):=by omega
 have z2:(32:Int)≤(cap:Int):=by omega
 go_enter Tryz.func333,Tryz.ntmps333
 go_wp2
 go_quiet (fail)
 go_wp2
 refine bodyPost_ret (v := .tuple #[.slice (some ⟨g,0,none⟩) 32 32,.slice (some ⟨g,32,none⟩) 4 4]) (by simp [results,Tryz.results333,go_sem]) rfl ⟨rfl,below_drewN (Below.refl _ _) _⟩
def mP (g:Nat):Value := .agg #[.slice (some ⟨g,0,none⟩) 4 4,.slice (some ⟨g,4,none⟩) 1 1,.slice (some ⟨g,8,none⟩) 8 8,.slice (some ⟨g,16,none⟩) 8 8,.slice (some ⟨g,24,none⟩) 8 8,.slice (some ⟨g,32,none⟩) 4 4]
set_option maxRecDepth 100000 in
theorem mparts_any (w:World) (g n cap:Nat) (h8:36≤cap) :
  Calls Tryz.prog 273 #[.slice (some ⟨g,0,none⟩) n cap] w fun e w'=>e = .returned (mP g)∧Below w.heap.size w w':=by
 have z1:(36:Int)≤(cap:Int):=by omega
 have z2:(32:Int)≤(cap:Int):=by omega
 have z3:(24:Int)≤(cap:Int):=by omega
 have z4:(16:Int)≤(cap:Int):=by omega
 have z5:(5:Int)≤(cap:Int):=by omega
 have z6:(4:Int)≤(cap:Int):=by omega
 go_enter Tryz.func273,Tryz.ntmps273
 go_wp2
 go_region
 go_wp2
 refine bodyPost_ret (v:=mP g) (by simp [results,Tryz.results273,go_sem,mP]) rfl ⟨rfl,below_drewN (bal (Below.refl _ _) _) 1⟩
set_option maxRecDepth 100000 in
set_option maxHeartbeats 1000000 in
theorem sealed_any (w:World) (g n cap:Nat) (l:List UInt8) (hl:Byt w g l) (hn:l.length=n) (h8:8≤n) (hc:n≤cap) (hm:n≤140737488355328) (t:ByteArray) (ht:(⟨(sld (l.take (n - 4))).toArray⟩:ByteArray)=t) :
  Calls Tryz.prog 265 #[.slice (some ⟨g,0,none⟩) n cap] w fun e w'=>e = .returned (.string t)∧Byt w' g (sld (l.take (n - 4)))∧Upo (fun b=>b=g) w w':=by
 obtain ⟨k,hk⟩ : ∃ k,n=k+4:=⟨n - 4,by omega⟩
 subst hk
 rw [Nat.add_sub_cancel] at ht ⊢
 obtain ⟨u,hu⟩ : ∃ u:ByteArray,(⟨(l.take k).toArray⟩:ByteArray)=u:=⟨_,rfl⟩
 have hul:u.data.toList=l.take k:=by rw [← hu]
 have hus:u.size=k:=by rw [← size_list,hul]; simp; omega
 have z1:(0:Int)≤(k:Int):=by omega
 have z2:(k:Int)≤(cap:Int):=by omega
 have z3:((k+4:Nat):Int) - 4=(k:Int):=by omega
 have z4:(k:Int)≤140737488355328:=by omega
 have z5:(k:Int)≤((k+4:Nat):Int):=by omega
 have z6 : ¬ cap=k:=by omega
 have HL:Hid (Byt w g l∧l.length=k+4∧g<w.heap.size):=⟨hl,hn,hl.lt (by omega)⟩
 have HC:Hid (∀ W,Below w.heap.size w W→(convert 127 9 (.slice (some ⟨g,0,none⟩) k k)).run Tryz.prog W = .ok (.string u) W):=fun W hb =>
  (HL.out.1.next hb HL.out.2.2).conv (k:=0) (n:=k) (by have:=HL.out.2.1; omega) 0 (fun _=>rfl) k u (by rw [List.drop_zero]; exact hu)
 obtain ⟨x,hx⟩ : ∃ x,crc (l.take k)=x:=⟨_,rfl⟩
 have hx4:=crc_lt (l.take k)
 rw [hx] at hx4
 have HF:Hid (∀ W,Calls Tryz.prog 341 #[.slice (some ⟨W.heap.size,0,none⟩) 1 1] (W.alloc (.cells #[.string u] 9)) fun e w'=>e = .returned (.int .u32 (x:Int))∧Below W.heap.size W w'):=fun W=>by
  refine (of_any _ _ W.heap.size 0 1 1 [u] ⟨rfl,fun _=>rfl,range_new W [.string u] 9,by intro s hs; simp at hs; subst hs; omega⟩ (by decide)).mono ?_
  rintro e w' ⟨rfl,hb⟩
  refine ⟨?_,((Below.refl _ _).alloc (Nat.le_refl _) _).trans (hb.mono (by simp))⟩
  rw [← hx,crc,sumL,← hul]
  simp [flat]
 have HP:Hid (∀ W,Below w.heap.size w W→Calls Tryz.prog 264 #[.slice (some ⟨g,k,none⟩) 4 (cap - k),.int .u64 (x:Int)] W fun e w'=>e = .returned (.tuple #[])∧Byt w' g (sld (l.take k))∧Upo (fun b=>b=g) w w'):=fun W hb=>by
  refine (put_any W g k 4 (cap - k) x l (HL.out.1.next hb HL.out.2.2) (by have:=HL.out.2.1; omega) (by decide) (by omega)).mono ?_
  rintro e w' ⟨rfl,hy,hup⟩
  refine ⟨rfl,?_,(Upo.of hb).on hup⟩
  rw [ovr,big_len,List.drop_eq_nil_of_le (by rw [hn]; exact Nat.le_refl _),List.append_nil,← hx] at hy
  exact hy
 have HD:Hid (∀ W,Byt W g (sld (l.take k))→(convert 127 9 (.slice (some ⟨g,0,none⟩) (k+4) cap)).run Tryz.prog W = .ok (.string t) W):=fun W hy=>by
  have hsl:(sld (l.take k)).length=k+4:=by rw [sld_len]; simp; omega
  exact hy.conv (k:=0) (n:=k+4) (by omega) 0 (fun _=>rfl) cap t (by rw [List.drop_zero,List.take_of_length_le (by omega)]; exact ht)
 clear hl hn ht hx hu hul hus
 go_enter Tryz.func265,Tryz.ntmps265
 go_wp2
 go_quiet (fail)
 have hb0:Below w.heap.size w (w.drewN nq):=below_drewN (Below.refl _ _) _
 have kc:=HC.out _ hb0
 generalize w.drewN nq=w1 at *
 go_wp2_with (first
  | (go_at_call 341; with_reducible refine (HF.out _).mono ?_; rintro e w2 ⟨rfl,hb⟩)
  | (go_at_call 264; with_reducible refine (HP.out _ (hb0.trans (hb.mono hb0.size))).mono ?_; rintro e w3 ⟨rfl,hy,hup⟩; have kd:=HD.out _ hy))
 go_ret
 exact ⟨rfl,hy,hup⟩
theorem zer_drop (n k:Nat):(zer n).drop k=zer (n - k):=by simp [zer]
theorem ovr_app (a b t:List UInt8) (k:Nat) (hk:a.length=k):ovr (a++b) k t=a++t++b.drop t.length:=by
 subst hk
 rw [ovr,List.take_append_of_le_length (Nat.le_refl _),List.take_of_length_le (Nat.le_refl _),List.drop_append,List.drop_eq_nil_of_le (by omega),List.nil_append]
 congr 2
 omega
theorem ovr_zer (a t:List UInt8) (n k:Nat) (hk:a.length=k):ovr (a++zer n) k t=a++t++zer (n - t.length):=by
 rw [ovr_app a (zer n) t k hk,zer_drop]
set_option maxRecDepth 100000 in
set_option maxHeartbeats 1000000 in
theorem payload_any (w:World) (s:ByteArray) (hs:s.size≤9223372036854775807) (t:ByteArray) (ht:(⟨(payS s.data.toList).toArray⟩:ByteArray)=t) :
  Calls Tryz.prog 167 #[.string s] w fun e w'=>e = .returned (.string t)∧Below w.heap.size w w':=by
 rw [payS,size_list] at ht
 by_cases h1:s.size≤1048576
 ·rw [if_pos h1] at ht
  have z1 : ¬ (s.size:Int) > 1048576:=by omega
  obtain ⟨n,hn⟩ : ∃ n,n=s.size:=⟨_,rfl⟩
  have z2:(s.size:Int)≤1048576:=by omega
  have hwr:IntKind.u64.wrap (s.size:Int)=(s.size:Int):=by rw [IntKind.wrap_u64]; omega
  have hz:(4:Int)+(s.size:Int)+4=((s.size+8:Nat):Int):=by omega
  obtain ⟨o,ho⟩ : ∃ o,(if s.size+8 - 4=4 then 0 else 4)=o:=⟨_,rfl⟩
  obtain ⟨w0,hw0⟩ : ∃ w0,w.alloc (.cells (Array.replicate (s.size+8) (Value.int .u8 0)) 5)=w0:=⟨_,rfl⟩
  have hmk:(Instr.makeSlice 127 (.int .i64 (4+(s.size:Int)+4)) (.int .i64 (4+(s.size:Int)+4))).run Tryz.prog w = .ok (.slice (some ⟨w.heap.size,0,none⟩) (s.size+8) (s.size+8)) w0:=by
   rw [hz,← hw0]; exact make_bytes _ (by omega) w
  have HW:Hid (Byt w0 w.heap.size (zer (s.size+8))∧Below w.heap.size w w0∧w.heap.size<w0.heap.size):=by
   rw [← hw0]
   exact ⟨byt_made w _,bal (Below.refl _ _) _,by simp⟩
  have HPP:Hid (∀ W,Calls Tryz.prog 263 #[.slice (some ⟨w.heap.size,0,none⟩) (s.size+8) (s.size+8)] W fun e w'=>e = .returned (.tuple #[.slice (some ⟨w.heap.size,0,none⟩) 4 4,.slice (some ⟨w.heap.size,o,none⟩) s.size s.size])∧Below W.heap.size W w'):=fun W =>
   pparts_any W w.heap.size (s.size+8) (s.size+8) (by omega) (Nat.le_refl _) (by omega) o ho s.size (by omega)
  have HPU:Hid (∀ W,Below w0.heap.size w0 W→Calls Tryz.prog 264 #[.slice (some ⟨w.heap.size,0,none⟩) 4 4,.int .u64 (s.size:Int)] W fun e w'=>e = .returned (.tuple #[])∧(∀ ty,(Builtin.copy_ #[127,9] ty #[.slice (some ⟨w.heap.size,o,none⟩) s.size s.size,.string s]).run Tryz.prog w' = .ok (goInt s.size) (w'.setCells w.heap.size 4 (cY s.data.toList)))∧Byt (w'.setCells w.heap.size 4 (cY s.data.toList)) w.heap.size (big 4 s.size++s.data.toList++zer 4)∧Below w.heap.size w (w'.setCells w.heap.size 4 (cY s.data.toList))):=fun W hb=>by
   refine (put_any W w.heap.size 0 4 4 s.size (zer (s.size+8)) (HW.out.1.next hb HW.out.2.2) (by rw [zer_len]; omega) (by decide) (by omega)).mono ?_
   rintro e w' ⟨rfl,hy,hup⟩
   rw [show zer (s.size+8)=[]++zer (s.size+8) from rfl,ovr_zer [] _ _ 0 rfl,big_len,List.nil_append] at hy
   refine ⟨rfl,fun ty=>run_copy ty (k:=4) (n:=s.size) (m:=s.size) (o:=o) hy (by rw [List.length_append,big_len,zer_len]; omega) (fun h=>by rw [← ho,if_neg (by omega)]) (Nat.le_refl _),?_,?_⟩
   ·have:=hy.over 4 s.data.toList (by rw [List.length_append,big_len,zer_len,size_list]; omega)
    rw [ovr_zer _ _ _ 4 (big_len _ _),size_list,show s.size+8 - 4 - s.size=4 by omega] at this
    exact this
   ·exact (Upo.sets (S:=fun b=>b=w.heap.size) (.inl rfl) (cY s.data.toList) 4 _ hup).since (bnext HW.out.2.1 hb) (Nat.le_refl _)
  have HSE:Hid (∀ W,Byt W w.heap.size (big 4 s.size++s.data.toList++zer 4)→Calls Tryz.prog 265 #[.slice (some ⟨w.heap.size,0,none⟩) (s.size+8) (s.size+8)] W fun e w'=>e = .returned (.string t)∧Below w.heap.size W w'):=fun W hy=>by
   have hlen:(big 4 s.size++s.data.toList++zer 4).length=s.size+8:=by rw [List.length_append,List.length_append,big_len,zer_len,size_list]; omega
   have htk:(big 4 s.size++s.data.toList++zer 4).take (s.size+8 - 4)=big 4 s.size++s.data.toList:=by
    rw [List.take_append_of_le_length (by rw [List.length_append,big_len,size_list]; omega),List.take_of_length_le (by rw [List.length_append,big_len,size_list]; omega)]
   refine (sealed_any W w.heap.size (s.size+8) (s.size+8) _ hy hlen (by omega) (Nat.le_refl _) (by omega) t (by rw [htk,← ht,pay,size_list])).mono ?_
   rintro e w' ⟨rfl,_,hup⟩
   exact ⟨rfl,hup.below (by have:=hy.lt (by omega); omega) (fun b hb=>by omega)⟩
  clear ho hn ht h1 hz hw0
  go_enter Tryz.func167,Tryz.ntmps167
  go_wp2_with (first
   | (go_at_call 263; with_reducible refine (HPP.out _).mono ?_; rintro e w1 ⟨rfl,hb⟩)
   | (go_at_call 264; with_reducible refine (HPU.out _ hb).mono ?_; rintro e w2 ⟨rfl,hcp,hy,hb2⟩; generalize w2.setCells w.heap.size 4 (cY s.data.toList)=w3 at *)
   | (refine wpList_copy_at (by rfl) _ _ _ _ (by rfl) (by rfl) (by rfl) (hcp _) ?_)
   | (go_at_call 265; with_reducible refine (HSE.out _ hy).mono ?_; rintro e w4 ⟨rfl,hb4⟩))
  go_ret
  exact ⟨rfl,hb2.trans hb4⟩
 ·rw [if_neg h1] at ht
  subst ht
  have z1:(s.size:Int) > 1048576:=by omega
  go_enter Tryz.func167,Tryz.ntmps167
  go_wp2
  go_ret
  exact ⟨rfl,Below.refl _ _⟩
theorem nod_row (p:Nat) (d:List UInt8) (h:d.length≤32):ovr (ovr (zer 40) 0 d) 32 (big 4 p)=d++zer (32 - d.length)++big 4 p++zer 4:=by
 rw [show zer 40=[]++zer 40 from rfl,ovr_zer [] _ _ 0 rfl,List.nil_append]
 have e:zer (40 - d.length)=zer (32 - d.length)++zer 8:=by
  rw [zer,zer,zer,List.replicate_append_replicate]
  congr 1
  omega
 rw [e,← List.append_assoc,ovr_zer _ _ _ 32 (by rw [List.length_append,zer_len]; omega),big_len]
set_option maxRecDepth 100000 in
set_option maxHeartbeats 1000000 in
theorem node_any (w:World) (p:Nat) (hp:p<18446744073709551616) (s:ByteArray) (hs:s.size≤9223372036854775807) (t:ByteArray) (ht:(⟨(nodS p s.data.toList).toArray⟩:ByteArray)=t) :
  Calls Tryz.prog 266 #[.int .u64 (p:Int),.string s] w fun e w'=>e = .returned (.string t)∧Below w.heap.size w w':=by
 rw [nodS,size_list] at ht
 by_cases h1:s.size≤32
 ·rw [if_pos h1] at ht
  have z1 : ¬ (s.size:Int) > 32:=by omega
  have hd:s.data.toList.length≤32:=by rw [size_list]; exact h1
  obtain ⟨w0,hw0⟩ : ∃ w0,w.alloc (.cells (Array.replicate 40 (Value.int .u8 0)) 5)=w0:=⟨_,rfl⟩
  have hmk:(Instr.makeSlice 127 (.int .i64 40) (.int .i64 40)).run Tryz.prog w = .ok (.slice (some ⟨w.heap.size,0,none⟩) 40 40) w0:=by
   rw [← hw0]; exact make_bytes 40 (by decide) w
  have HW:Hid (Byt w0 w.heap.size (zer 40)∧Below w.heap.size w w0∧w.heap.size<w0.heap.size):=by
   rw [← hw0]
   exact ⟨byt_made w _,bal (Below.refl _ _) _,by simp⟩
  have HPP:Hid (∀ W,Calls Tryz.prog 333 #[.slice (some ⟨w.heap.size,0,none⟩) 40 40] W fun e w'=>e = .returned (.tuple #[.slice (some ⟨w.heap.size,0,none⟩) 32 32,.slice (some ⟨w.heap.size,32,none⟩) 4 4])∧Below W.heap.size W w'):=fun W =>
   nparts_any W w.heap.size 40 40 (by decide)
  have HCP:Hid (∀ W,Below w0.heap.size w0 W→(∀ ty,(Builtin.copy_ #[127,9] ty #[.slice (some ⟨w.heap.size,0,none⟩) 32 32,.string s]).run Tryz.prog W = .ok (goInt s.size) (W.setCells w.heap.size 0 (cY s.data.toList)))∧Byt (W.setCells w.heap.size 0 (cY s.data.toList)) w.heap.size (ovr (zer 40) 0 s.data.toList)∧Below w.heap.size w (W.setCells w.heap.size 0 (cY s.data.toList))):=fun W hb=>by
   have hy:=HW.out.1.next hb HW.out.2.2
   exact ⟨fun ty=>run_copy ty (k:=0) (n:=32) (m:=32) (o:=0) hy (by rw [zer_len]; decide) (fun _=>rfl) h1,hy.over 0 _ (by rw [zer_len]; omega),(Upo.sets (S:=fun b=>b=w.heap.size) (.inl rfl) (cY s.data.toList) 0 _ (Upo.refl _ _)).since (bnext HW.out.2.1 hb) (Nat.le_refl _)⟩
  have HPU:Hid (∀ W,Byt W w.heap.size (ovr (zer 40) 0 s.data.toList)→Below w.heap.size w W→Calls Tryz.prog 264 #[.slice (some ⟨w.heap.size,32,none⟩) 4 4,.int .u64 (p:Int)] W fun e w'=>e = .returned (.tuple #[])∧Byt w' w.heap.size (s.data.toList++zer (32 - s.data.toList.length)++big 4 p++zer 4)∧Below w.heap.size w w'):=fun W hy hb=>by
   refine (put_any W w.heap.size 32 4 4 p _ hy (by rw [ovr_len _ _ _ (by rw [zer_len]; omega),zer_len]; decide) (by decide) hp).mono ?_
   rintro e w' ⟨rfl,hy',hup⟩
   rw [nod_row p _ hd] at hy'
   exact ⟨rfl,hy',hup.since hb (Nat.le_refl _)⟩
  have HSE:Hid (∀ W,Byt W w.heap.size (s.data.toList++zer (32 - s.data.toList.length)++big 4 p++zer 4)→Calls Tryz.prog 265 #[.slice (some ⟨w.heap.size,0,none⟩) 40 40] W fun e w'=>e = .returned (.string t)∧Below w.heap.size W w'):=fun W hy=>by
   have hlen:(s.data.toList++zer (32 - s.data.toList.length)++big 4 p).length=36:=by rw [List.length_append,List.length_append,big_len,zer_len]; omega
   have hlen2:(s.data.toList++zer (32 - s.data.toList.length)++big 4 p++zer 4).length=40:=by rw [List.length_append,hlen,zer_len]
   have htk:(s.data.toList++zer (32 - s.data.toList.length)++big 4 p++zer 4).take (40 - 4)=s.data.toList++zer (32 - s.data.toList.length)++big 4 p:=by
    rw [List.take_append_of_le_length (by omega),List.take_of_length_le (by omega)]
   refine (sealed_any W w.heap.size 40 40 _ hy hlen2 (by omega) (Nat.le_refl _) (by omega) t (by rw [htk,← ht,nod])).mono ?_
   rintro e w' ⟨rfl,_,hup⟩
   exact ⟨rfl,hup.below (by have:=hy.lt (by omega); omega) (fun b hb=>by omega)⟩
  clear ht h1 hd hw0 hp
  go_enter Tryz.func266,Tryz.ntmps266
  go_wp2_with (first
   | (go_at_call 333; with_reducible refine (HPP.out _).mono ?_; rintro e w1 ⟨rfl,hb⟩; obtain ⟨hcp,hy,hb2⟩:=HCP.out _ hb; generalize w1.setCells w.heap.size 0 (cY s.data.toList)=w3 at *)
   | (refine wpList_copy_at (by rfl) _ _ _ _ (by rfl) (by rfl) (by rfl) (hcp _) ?_)
   | (go_at_call 264; with_reducible refine (HPU.out _ hy hb2).mono ?_; rintro e w4 ⟨rfl,hy,hb4⟩)
   | (go_at_call 265; with_reducible refine (HSE.out _ hy).mono ?_; rintro e w5 ⟨rfl,hb5⟩))
  go_ret
  exact ⟨rfl,hb4.trans hb5⟩
 ·rw [if_neg h1] at ht
  subst ht
  have z1:(s.size:Int) > 32:=by omega
  go_enter Tryz.func266,Tryz.ntmps266
  go_wp2
  go_ret
  exact ⟨rfl,Below.refl _ _⟩
end Go.Proofs.YtoblgjledefdbaaGreatDoor.St.Rc
