/- Own work. -/
import Derived.Deep.AppendSrc
import Derived.Lib.AppendStr
import Derived.Deep.Upon
import Derived.Test.YtoblgjledefdbaaGreatDoorQf37
namespace Go.Proofs.YtoblgjledefdbaaGreatDoor
open Go.RowKit
open Cv (rst cov errS)
attribute [local go_sem ↓] Go.wp_at_zero Go.wp_at_succ
section
variable (w:World) (kd k:Int) (old size:Nat) (sa:Option Addr) (sb so sc:Nat) (S:List Nat) (d:Value)
set_option maxRecDepth 100000 in
theorem cpath_yes (hn:size≤2^40) (rs:RdU w sa sb so S.length S) (h2:S.length=1) (h3:S.getD 0 0<size) :
  Calls Tryz.prog 382 #[pv6 kd k 0 size (.slice sa S.length sc) d] w fun e w'=>e = .returned (.tuple #[.int .u64 ((rst 0 size S).length:Nat),.int .i64 0])∧Below w.heap.size w w':=by
 obtain ⟨i,rfl⟩:=List.length_eq_one_iff.1 h2
 have hp:=rs.ptr (by simp)
 subst hp
 rw [show [i].getD 0 0=i from rfl] at h3
 obtain ⟨H,g1,g2,g3,g4⟩:=path_cnt hn h3
 obtain ⟨W,hW,h6,hb,hz⟩:=box6 w (.int .i64 kd) (.int .i64 k) (.int .u64 0) (.int .u64 (size:Int)) (.slice (some ⟨sb,so,none⟩) 1 sc) d
 obtain ⟨e0,e1,e2,e3,e4,e5⟩:=h6.cells
 have HB:Hid (Below w.heap.size w W):=hb
 have hc:W.cell? ⟨sb,so,none⟩=some (.int .u64 (i:Int)):=by
  have:=(rs.next hb).at (j:=0) (by simp)
  rw [Nat.add_zero] at this
  exact this
 have hx:=u64_xor_nat size i (by omega) (by omega)
 have h41:(2:Nat)^(H+1)≤2^41:=Nat.pow_le_pow_right (by decide) (by omega)
 have HL:=fun W'=>log_at (size ^^^ i) H W' (by omega) g2 g3
 clear h41 g2 g3
 have HO:=fun W'=>Pl.ones_any size W' (by omega)
 have ho:Pl.ones 64 size≤64:=Pl.ones_le 64 size
 obtain ⟨c,hcn⟩ : ∃ c,(rst 0 size [i]).length=c:=⟨_,rfl⟩
 rw [hcn] at g1 ⊢
 have hq0:0<Pl.ones 64 size:=by
  rw [← Cv.cov_ones size hn]
  cases hz:cov 0 size with
  | nil =>
   have ht:=Cv.cov_til 0 size (Nat.zero_le _) hn
   rw [hz] at ht
   exact absurd ⟨Nat.zero_le _,h3⟩ (ht.2 i (Nat.zero_le _) h3)
  | cons b r=>simp
 generalize Pl.ones 64 size=q at *
 have h3':decide ((size:Int)≤(i:Int))=false:=decide_eq_false (by omega)
 have h3n : ¬ size≤i:=by omega
 obtain ⟨q',rfl⟩ : ∃ q',q=q'+1:=⟨q - 1,by omega⟩
 have eq:((q'+1:Nat):Int) - 1=(q':Int):=by omega
 have hq':(q':Int)≤64:=by omega
 have hH':(H:Int)≤40:=by omega
 have hq2:q'≤100:=by omega
 have hc2:c≤1000∧H+q'=c:=by omega
 have HCc:Hid ((H:Int)+(q':Int)=(c:Int)):=(by omega:(H:Int)+(q':Int)=(c:Int))
 have hH2:H≤100:=by omega
 have ew:=one_i q' hq2
 have ew2:=sum_i H q' hH2 hq2
 clear hq2 hc2 g1 hH2
 have HB6:Hid (∀ n,Six (W.drewN n) w.heap.size (.int .i64 kd) (.int .i64 k) (.int .u64 0) (.int .u64 (size:Int)) (.slice (some ⟨sb,so,none⟩) 1 sc) d∧(W.drewN n).cell? ⟨sb,so,none⟩=some (.int .u64 (i:Int))∧Below w.heap.size w (W.drewN n)):=fun n=>⟨h6.next (below_drewN (Below.refl _ _) n),((below_drewN (Below.refl W.heap.size W) n).cell (World.block_lt_of_cell? W _ hc)).trans hc,below_drewN hb n⟩
 clear rs hn h2 h3 g4 h6 hb ho hcn hq0
 go_enter Tryz.func382,Tryz.ntmps382
 go_upto_region 1 with (fail)
 try rw [hW]
 clear hW
 go_quiet (fail)
 go_upto_region 3 with (fail)
 have k0:=HB6.out nq
 obtain ⟨W2,hW2⟩ : ∃ W2,W.drewN nq=W2:=⟨_,rfl⟩
 try rw [hW2]
 rw [hW2] at k0
 clear hW2 e0 e1 e2 e3 e4 e5 hc
 obtain ⟨k0,hc,HW⟩:=k0
 obtain ⟨e0,e1,e2,e3,e4,e5⟩:=k0.cells
 have HW:=hideC HW
 go_quiet ((go_at_call 408; refine Calls.quiet_of_same (HL _)))
 go_wp2_with (go_at_call 138; with_reducible refine (HO _).mono ?_; rintro x w2 ⟨rfl,rfl⟩)
 go_ret2
 refine ⟨?_,below_drewN HW.out _⟩
 show Ending.returned (.tuple #[.int .u64 ((H:Int)+(q':Int)),.int .i64 0])=_
 rw [HCc.out]
end
def cV:Option Nat→Value
 | some c => .tuple #[.int .u64 (c:Int),.int .i64 0]
 | none => .tuple #[.int .u64 0,.int .i64 150]
theorem err_one {size i:Nat} (hn:size≤2^40):errS size [i]=0↔i<size :=
 ⟨fun h=>by have:=(Cv.errS_ok h).2.2.1; simpa using this,fun h=>Cv.chain_inc ⟨Nat.zero_le _,h⟩ (by simp) hn⟩
theorem cnt_path {k:Int} {old size:Nat} {S:List Nat} (hk:1≤k∧k≤32∧size≤2^40):cnt 1 k old size S=if old=0∧S.length=1∧S.getD 0 0<size then some (rst 0 size S).length else none:=by
 rw [cnt,if_pos hk,if_pos rfl]
 by_cases h1:S.length=1
 ·obtain ⟨i,rfl⟩:=List.length_eq_one_iff.1 h1
  have:=err_one (i:=i) hk.2.2
  simp only [this]
  rfl
 ·rw [if_neg (by rintro ⟨_,h,_⟩; exact h1 h),if_neg (by rintro ⟨_,h,_⟩; exact h1 h)]
theorem cnt_batch {k:Int} {old size:Nat} {S:List Nat} (hk:1≤k∧k≤32∧size≤2^40):cnt 2 k old size S=if old=0∧errS size S=0 then some (rst 0 size S).length else none:=by
 rw [cnt,if_pos hk,if_neg (by decide),if_pos rfl]
theorem cnt_kin {k:Int} {old size:Nat} {S:List Nat} (hk:1≤k∧k≤32∧size≤2^40):cnt 3 k old size S=if old≤size∧S=[] then some ((cov 0 old).length+(cov old size).length) else none:=by
 rw [cnt,if_pos hk,if_neg (by decide),if_neg (by decide),if_pos rfl]
theorem cnt_off {kd k:Int} {old size:Nat} {S:List Nat} (h : ¬ (1≤k∧k≤32∧size≤2^40)):cnt kd k old size S=none:=by rw [cnt,if_neg h]
theorem cnt_other {kd k:Int} {old size:Nat} {S:List Nat} (h1:kd≠1) (h2:kd≠2) (h3:kd≠3):cnt kd k old size S=none:=by
 rw [cnt,if_neg h1,if_neg h2,if_neg h3]
 split <;> rfl
section
variable (w:World) (kd k:Int) (old size:Nat) (sa:Option Addr) (sb so sc:Nat) (S:List Nat) (d:Value)
set_option maxRecDepth 100000 in
set_option maxHeartbeats 1000000 in
theorem count_any (hold:old<18446744073709551616) (hsz:size<18446744073709551616) (rs:RdU w sa sb so S.length S) (hm0:size≤2^40→S.length≤17592186044416) :
  Calls Tryz.prog 310 #[pv6 kd k old size (.slice sa S.length sc) d] w fun e w'=>e = .returned (cV (cnt kd k old size S))∧Below w.heap.size w w':=by
 obtain ⟨W,hW,h6,hb,hz⟩:=box6 w (.int .i64 kd) (.int .i64 k) (.int .u64 (old:Int)) (.int .u64 (size:Int)) (.slice sa S.length sc) d
 obtain ⟨e0,e1,e2,e3,e4,e5⟩:=h6.cells
 have HB:Hid (∀ w',Below W.heap.size W w'→Below w.heap.size w w'):=fun w' hb'=>bnext hb hb'
 have HBW:Hid (Below w.heap.size w W):=hb
 have rs':=rs.next hb
 by_cases h0:1≤k∧k≤32∧size≤2^40
 ·have hm:=hm0 h0.2.2
  clear hm0
  have hk1 : ¬ k<1:=by omega
  have hk2 : ¬ 32<k:=by omega
  have hk3 : ¬ (1099511627776:Int)<(size:Int):=by omega
  by_cases h1:kd=1
  ·subst h1
   rw [cnt_path h0]
   by_cases hc:old=0∧S.length=1∧S.getD 0 0<size
   ·rw [if_pos hc]
    obtain ⟨rfl,hc2,hc3⟩:=hc
    have HC:Calls Tryz.prog 382 #[.agg #[.int .i64 1,.int .i64 k,.int .u64 0,.int .u64 (size:Int),.slice sa S.length sc,d]] W fun e w'=>e = .returned (.tuple #[.int .u64 ((rst 0 size S).length:Nat),.int .i64 0])∧Below W.heap.size W w':=cpath_yes W 1 k size sa sb so sc S d h0.2.2 rs' hc2 hc3
    have hz0:((0:Nat):Int)=0:=rfl
    rw [hz0] at hW e2
    clear hz0
    generalize (rst 0 size S).length=cc at *
    generalize S.length=m at *
    clear rs rs' h6 hb hm h0 hold hsz hc2 hc3
    go_enter Tryz.func310,Tryz.ntmps310
    go_wp2_with (go_at_call 382; with_reducible refine HC.mono ?_; rintro x w1 ⟨rfl,hb1⟩)
    go_ret2
    exact ⟨rfl,HB.out _ hb1⟩
   ·rw [if_neg hc]
    have HC:=cpath_no W 1 k old size sa sb so sc S d rs' hc
    generalize S.length=m at *
    clear rs rs' h6 hb hm h0 hold hsz hc
    go_enter Tryz.func310,Tryz.ntmps310
    go_wp2_with (go_at_call 382; with_reducible refine HC.mono ?_; rintro x w1 ⟨rfl,hb1⟩)
    go_ret2
    exact ⟨rfl,HB.out _ hb1⟩
  ·by_cases h2:kd=2
   ·subst h2
    rw [cnt_batch h0]
    by_cases hc:old=0∧errS size S=0
    ·rw [if_pos hc]
     obtain ⟨rfl,hc2⟩:=hc
     have HC:Calls Tryz.prog 383 #[.agg #[.int .i64 2,.int .i64 k,.int .u64 0,.int .u64 (size:Int),.slice sa S.length sc,d]] W fun e w'=>e = .returned (.tuple #[.int .u64 ((rst 0 size S).length:Nat),.int .i64 0])∧Below W.heap.size W w':=cbatch_yes W 2 k size sa sb so sc S d rs' hm hc2
     have hz0:((0:Nat):Int)=0:=rfl
     rw [hz0] at hW e2
     clear hz0
     generalize (rst 0 size S).length=cc at *
     generalize S.length=m at *
     clear rs rs' h6 hb hm h0 hold hsz hc2 h1
     go_enter Tryz.func310,Tryz.ntmps310
     go_wp2_with (go_at_call 383; with_reducible refine HC.mono ?_; rintro x w1 ⟨rfl,hb1⟩)
     go_ret2
     exact ⟨rfl,HB.out _ hb1⟩
    ·rw [if_neg hc]
     have HC:=cbatch_no W 2 k old size sa sb so sc S d hold rs' hm hc
     generalize S.length=m at *
     clear rs rs' h6 hb hm h0 hold hsz hc h1
     go_enter Tryz.func310,Tryz.ntmps310
     go_wp2_with (go_at_call 383; with_reducible refine HC.mono ?_; rintro x w1 ⟨rfl,hb1⟩)
     go_ret2
     exact ⟨rfl,HB.out _ hb1⟩
   ·by_cases h3:kd=3
    ·subst h3
     rw [cnt_kin h0]
     by_cases hc:old≤size∧S=[]
     ·rw [if_pos hc]
      obtain ⟨hc1,rfl⟩:=hc
      have HC:=ckin_yes W 3 k old size sa sc d h0.2.2 hc1
      rw [List.length_nil] at *
      generalize (cov 0 old).length+(cov old size).length=cc at *
      clear rs rs' h6 hb hm h0 hold hsz hc1 h1 h2
      go_enter Tryz.func310,Tryz.ntmps310
      go_wp2_with (go_at_call 384; with_reducible refine HC.mono ?_; rintro x w1 ⟨rfl,hb1⟩)
      go_ret2
      exact ⟨rfl,HB.out _ hb1⟩
     ·rw [if_neg hc]
      have HC:=ckin_no W 3 k old size sa sc S d h0.2.2 hm (by rintro ⟨a,b⟩; exact hc ⟨a,List.length_eq_zero_iff.1 b⟩)
      generalize S.length=m at *
      clear rs rs' h6 hb hm h0 hold hsz hc h1 h2
      go_enter Tryz.func310,Tryz.ntmps310
      go_wp2_with (go_at_call 384; with_reducible refine HC.mono ?_; rintro x w1 ⟨rfl,hb1⟩)
      go_ret2
      exact ⟨rfl,HB.out _ hb1⟩
    ·rw [cnt_other h1 h2 h3]
     generalize S.length=m at *
     clear rs rs' h6 hb hm h0 hold hsz
     go_enter Tryz.func310,Tryz.ntmps310
     go_wp2
     go_ret2
     exact ⟨rfl,HBW.out⟩
 ·rw [cnt_off h0]
  clear hm0
  generalize S.length=m at *
  by_cases hk1:k<1
  ·clear rs rs' h6 hb h0 hold hsz
   go_enter Tryz.func310,Tryz.ntmps310
   go_wp2
   go_ret2
   exact ⟨rfl,HBW.out⟩
  ·by_cases hk2:32<k
   ·clear rs rs' h6 hb h0 hold hsz
    go_enter Tryz.func310,Tryz.ntmps310
    go_wp2
    go_ret2
    exact ⟨rfl,HBW.out⟩
   ·have hk3:(1099511627776:Int)<(size:Int):=by omega
    clear rs rs' h6 hb h0 hold hsz
    go_enter Tryz.func310,Tryz.ntmps310
    go_wp2
    go_ret2
    exact ⟨rfl,HBW.out⟩
end
end Go.Proofs.YtoblgjledefdbaaGreatDoor
namespace Go.Proofs.YtoblgjledefdbaaGreatDoor
open Go.RowKit
open Cv (Chain)
attribute [local go_sem ↓] Go.wp_at_zero Go.wp_at_succ
def Row8 (w:World) (B:Nat) (v:Value) (l:List UInt8):Prop :=
 ∃ g cap,v = .slice (some ⟨g,0,none⟩) l.length cap∧B≤g∧g<w.heap.size∧w.rangeAt g 0 (cY l)∧w.there g 0 cap∧l.length≤cap
theorem cells8 (t:ByteArray):byteCells t=cY t.data.toList:=rfl
theorem cells9 (t:ByteArray):Lib.strCells t=cY t.data.toList:=rfl
theorem cY_app (l m:List UInt8):cY (l++m)=cY l++cY m:=by simp [cY]
theorem row8_new (w:World) (s:ByteArray) (cap:Nat) (hc:s.size≤cap):Row8 (w.alloc (.cells (bytesRow s cap) 5 ((bytesRow s cap).size,(bytesRow s cap).size+1))) w.heap.size (.slice (some ⟨w.heap.size,0,none⟩) s.size cap) s.data.toList:=by
 have hd:s.data.size=s.size:=rfl
 have hsz:(bytesRow s cap).size=cap:=by simp only [bytesRow,Array.size_append,Array.size_map,Array.size_replicate,hd]; omega
 refine ⟨w.heap.size,cap,by rw [size_list],Nat.le_refl _,by simp,fun j v hv => ?_,fun j hj=>⟨?_,?_⟩,by rw [size_list]; exact hc⟩
 ·have hj:j<s.data.size:=by have:=(List.getElem?_eq_some_iff.1 hv).1; rw [cY_len,Array.length_toList] at this; exact this
  rw [Nat.zero_add,World.cell?_alloc_mark,bytesRow_at s cap j hj,← hv]
  simp [cY,Array.getElem?_eq_getElem hj]
 ·rw [Nat.zero_add,World.cell?_alloc_mark,Array.getElem?_eq_getElem (by omega)]; rfl
 ·rw [Nat.zero_add,World.frozen?_alloc_mark,hsz]
  simp
  omega
theorem Row8.next {w w':World} {B:Nat} {v:Value} {l:List UInt8} (h:Row8 w B v l) (hb:Below w.heap.size w w'):Row8 w' B v l:=by
 obtain ⟨g,cap,rfl,h1,h2,h3,h4,h5⟩:=h
 refine ⟨g,cap,rfl,h1,Nat.lt_of_lt_of_le h2 hb.size,range_belowC hb h2 h3,fun j hj => ?_,h5⟩
 rw [hb.cell (p:=⟨g,0+j,none⟩) h2,hb.frozen (p:=⟨g,0+j,none⟩) h2]; exact h4 j hj
theorem Row8.conv {w:World} {B:Nat} {v:Value} {l:List UInt8} (h:Row8 w B v l):(convert 127 9 v).run Tryz.prog w = .ok (.string ⟨l.toArray⟩) w:=by
 obtain ⟨g,cap,rfl,h1,h2,h3,h4,h5⟩:=h
 refine run_convert_bytes_back _ 127 9 5 ⟨g,0,none⟩ cap l Tryz.underlying127 Tryz.underlying5 Tryz.underlying9 fun j hj => ?_
 rw [Addr.add_mid]
 exact h3 j _ (by simp [cY,List.getElem?_eq_getElem hj])
theorem below_set8 {B g:Nat} (hg:B≤g) : ∀ (vs:List Value) (o:Nat) (w:World),Below B w (w.setCells g o vs)
 | [],_,_=>Below.refl _ _
 | v::r,o,w=>((Below.refl B w).setCell (p:=⟨g,o,none⟩) hg v).trans (below_set8 hg r (o+1) _)
theorem wpList_append_8 (w:World) {ops:Array Oper} {rest:List Oper} {o:Oper} {a:Act} {Q:Exit→Act→World→Prop}
  (hg:o.guard=none) (s x:Operand) (hop:o.op=Op.call { callee:=Callee.builtin Builtin.append,args:=#[s,x],argTypes:=#[127,9] })
  (B:Nat) (v:Value) (l:List UInt8) (hs:a.eval s=v) (h:Row8 w B v l) (t:ByteArray) (hx:a.eval x = .string t) (hlen:l.length+t.size≤140737488355328) (hB:B≤w.heap.size)
  (hK : ∀ v' w',Row8 w' B v' (l++t.data.toList)→Below B w w'→wpList Tryz.prog ops Q rest (a.put o.dst v') w'):wpList Tryz.prog ops Q (o::rest) a w:=by
 obtain ⟨i0,hi,hz0,hz1,hz2⟩:=info_parts Tryz.infoY
 obtain ⟨g,cap,rfl,h1,h2,h3,h4,h5⟩:=h
 refine wpList_plain hg fun K hK' => ?_
 have ht:(byteCells t).length=t.size:=by rw [cells8,cY_len,size_list]
 have main : ∃ v' w',(Builtin.append_ #[127,9] o.type #[.slice (some ⟨g,0,none⟩) l.length cap,.string t]).run Tryz.prog w = .ok v' w'∧Row8 w' B v' (l++t.data.toList)∧Below B w w':=by
  by_cases hroom:l.length+t.size≤cap
  ·have hr:=run_append_room_src (P:=Tryz.prog) w 127 9 o.type 5 i0 Tryz.underlying127 hi g 0 l.length cap (.string t) t.size (byteCells t) (by rw [hz1]; exact Src.ofString w Tryz.underlying9 t) hroom
    (fun j hj=>by rw [hz1,Nat.mul_one,Nat.add_assoc]; exact (h4 (l.length+j) (by omega)).1) (fun j hj=>by rw [hz1,Nat.mul_one,Nat.add_assoc]; exact (h4 (l.length+j) (by omega)).2)
   refine ⟨_,_,hr,⟨g,cap,by simp,h1,?_,?_,World.there_setCells h4 _ _ _,by simp; omega⟩,?_⟩
   ·have:=World.isSome_setCells g (byteCells t) (0+l.length * i0.size) w
    rcases Nat.eq_zero_or_pos cap with h0 | h0
    ·have hb:(byteCells t)=[]:=List.length_eq_zero_iff.1 (by omega)
     rw [hb]; exact h2
    ·obtain ⟨u,hu⟩:=Option.isSome_iff_exists.1 (this ⟨g,0+0,none⟩ (h4 0 h0).1)
     exact World.block_lt_of_cell? _ _ hu
   ·rw [hz1,Nat.mul_one,cY_app]
    intro j u hu
    by_cases hj:j<l.length
    ·rw [List.getElem?_append_left (by rw [cY_len]; exact hj)] at hu
     exact World.rangeAt_setCells_apart h3 g (0+l.length) (byteCells t) (.inr (.inl (by rw [cY_len]; exact Nat.le_refl _))) j u hu
    ·rw [List.getElem?_append_right (by rw [cY_len]; omega),cY_len] at hu
     have:=World.rangeAt_setCells_same w g (0+l.length) (byteCells t) (fun j hj=>by rw [Nat.add_assoc]; exact h4 (l.length+j) (by omega)) (j - l.length) u hu
     rwa [show 0+l.length+(j - l.length)=0+j by omega] at this
   ·exact below_set8 h1 _ _ _
  ·have hr:=Lib.run_append_grow_string (P:=Tryz.prog) w 127 9 o.type 5 i0 (.int .u8 0) Tryz.underlying127 Tryz.underlying9 hi hz0 ⟨g,0,none⟩ l.length cap (cY l) (by rw [hz1,cY_len,Nat.mul_one]) (fun j u hu=>by rw [Addr.add_mid]; exact h3 j u hu) t (by omega) (by omega) (by rw [hz2]; exact growslice_fits (by omega) (by omega))
   have hge:=grownCap_ge w (l.length+t.size) cap 5
   refine ⟨_,_,hr,⟨w.heap.size,grownCap w (l.length+t.size) cap 5,by simp,hB,by simp,?_,?_,by simp; exact hge⟩,?_⟩
   ·intro j u hu
    show (w.drew.alloc _).cell? ⟨w.drew.heap.size,0+j,none⟩=some u
    rw [World.cell?_alloc_new,Nat.zero_add]
    rw [cY_app,← cells9] at hu
    rw [Array.getElem?_append_left (by have:=(List.getElem?_eq_some_iff.1 hu).1; simpa using this)]
    simpa using hu
   ·refine there_new w.drew _ 5 _ ?_
    have hz1':(Value.int IntKind.u8 0).cells.size=1:=rfl
    simp only [Array.size_append,List.size_toArray,size_zeroCells,hz1',cY_len,cells9,size_list]
    omega
   ·exact (below_drewN (Below.refl B w) 1).alloc hB _
 obtain ⟨v',w',hr,hw,hb⟩:=main
 unfold Oper.wp
 simp [execOp,hop,resolve,invoke,builtin,hs,hx,hr,Result.andThen]
 exact hK' _ _ (hK v' w' hw hb)
theorem bytes8 (W:World) (t:ByteArray) : ∃ v W',(convert 9 127 (.string t)).run Tryz.prog W = .ok v W'∧Row8 W' W.heap.size v t.data.toList∧Below W.heap.size W W':=by
 have h:=run_bytes_of_string (P:=Tryz.prog) W 9 127 5 t Tryz.underlying9 Tryz.underlying127 Tryz.underlying5
 exact ⟨_,_,h,row8_new W.drew t _ (grownCap_ge W t.size 0 5),(below_drewN (Below.refl _ W) 1).alloc (Nat.le_refl _) _⟩
theorem chain_at : ∀ {S:List Nat} {x n:Nat},Chain x S n → ∀ j,j<S.length→nxt x (S.take j)≤S.getD j 0∧S.getD j 0<n:=by
 intro S
 induction S with
 | nil=>intro x n _ j hj; simp at hj
 | cons i S ih =>
  intro x n h j hj
  cases j with
  | zero=>exact ⟨h.1,by have:=Cv.chain_le h.2; simp; omega⟩
  | succ j=>have:=ih h.2 j (by simpa using hj); simpa [nxt] using this
theorem laidL_le : ∀ {S:List Nat} {x n:Nat},Chain x S n→n≤2^64→(laidL x S).length≤10 * S.length:=by
 intro S
 induction S with
 | nil=>intro x n _ _; simp [laidL]
 | cons i S ih =>
  intro x n h hn
  have:=ih h.2 hn
  have:=Cv.chain_le h.2
  have:=num_len (n:=i - x) (by omega)
  rw [laidL,List.length_append,List.length_cons]
  omega
theorem laidL_part {n:Nat} (hn:n≤2^64) : ∀ {S:List Nat} {x:Nat},Chain x S n → ∀ j,(laidL x (S.take j)).length≤10 * S.length:=by
 intro S
 induction S with
 | nil=>intro x _ j; simp [laidL]
 | cons i S ih =>
  intro x h j
  cases j with
  | zero=>simp [laidL]
  | succ j =>
   have:=ih h.2 j
   have:=Cv.chain_le h.2
   have:=num_len (n:=i - x) (by omega)
   rw [List.take_succ_cons,laidL,List.length_append,List.length_cons]
   omega
theorem take_nextC {S:List Nat} {j:Nat} (hj:j<S.length):S.take (j+1)=S.take j++[S.getD j 0]:=by
 rw [List.take_add_one,List.getElem?_eq_getElem hj,List.getD_eq_getElem?_getD,List.getElem?_eq_getElem hj]; rfl
set_option maxRecDepth 100000 in
set_option maxHeartbeats 1000000 in
theorem laid_any (w:World) (sa:Option Addr) (sb so sc:Nat) (S:List Nat) (n:Nat) (rs:RdU w sa sb so S.length S) (hc:Chain 0 S n) (hn:n≤1099511627776) :
  Calls Tryz.prog 312 #[.slice sa S.length sc] w fun e w'=>e = .returned (.string ⟨(num S.length++laidL 0 S).toArray⟩)∧Below w.heap.size w w':=by
 have hl:=chain_len hc
 have HN:=fun W=>num_any W S.length (by omega)
 have e0:IntKind.u64.wrap (S.length:Int)=(S.length:Int):=by rw [IntKind.wrap_u64]; omega
 have HS:Hid (RdU w sa sb so S.length S∧Chain 0 S n∧n≤1099511627776∧S.length≤n):=⟨rs,hc,hn,by omega⟩
 have hm9:(S.length:Int)≤1099511627776:=by omega
 obtain ⟨m,hm⟩ : ∃ m,S.length=m:=⟨_,rfl⟩
 have HM:Hid (S.length=m):=hm
 rw [hm] at HN e0 hm9 ⊢
 clear rs hc hn hl hm
 have HZ:Hid ((num m).length≤10):=num_len (by omega)
 go_enter Tryz.func312,Tryz.ntmps312
 go_upto_region 2 with (go_at_call 311; with_reducible refine (HN _).mono ?_; rintro x w1 ⟨rfl,hb1⟩; (obtain ⟨v1,W1,kb1,r1,b1⟩:=bytes8 w1 ⟨(num m).toArray⟩))
 have HR:Hid (Row8 W1 w.heap.size v1 (num m++laidL 0 (S.take 0))∧Below w.heap.size w W1):=by
  obtain ⟨g,cap,h0,h1,h2⟩:=r1
  exact ⟨⟨g,cap,by simpa [laidL] using h0,Nat.le_trans hb1.size h1,by simpa [laidL] using h2⟩,bnext hb1 b1⟩
 clear kb1 r1 b1 hb1 HN
 go_wp2
 go_loopg [3,4,6,14] m (fun gg v x i6 ix wr => ∃ (j:Nat),j≤m∧gg=m - j∧ix = .int .i64 (j:Int)∧x = .int .u64 ((nxt 0 (S.take j):Nat):Int)∧Row8 wr w.heap.size v (num m++laidL 0 (S.take j))∧Below w.heap.size w wr)
 case atStart =>
  go_light
  exact ⟨0,Nat.zero_le _,rfl,rfl,rfl,HR.out.1,HR.out.2⟩
 case round =>
  obtain ⟨j,hj,rfl,rfl,rfl,hr,hb⟩:=hrel
  obtain ⟨k1,k2,k3,k4⟩:=HS.out
  have hmm:=HM.out
  have hz:=HZ.out
  have hj0:(0:Int)≤(j:Int):=Int.natCast_nonneg _
  by_cases hlt:j<m
  ·have hlt':(j:Int)<(m:Int):=by omega
   obtain ⟨g,cap,rfl,hr⟩:=hr
   obtain rfl:=k1.ptr (by omega)
   have cj:=(k1.next hb).at (j:=j) (by omega)
   obtain ⟨c1,c2⟩:=chain_at k2 j (by omega)
   have htk:=take_nextC (S:=S) (j:=j) (by omega)
   have hln:=laidL_part (n:=n) (by omega) k2 j
   obtain ⟨i,hi⟩ : ∃ i,S.getD j 0=i:=⟨_,rfl⟩
   rw [hi] at cj c1 c2 htk
   obtain ⟨y,hy⟩ : ∃ y,nxt 0 (S.take j)=y:=⟨_,rfl⟩
   rw [hy] at c1 ⊢
   have HN:=fun W=>num_any W (i - y) (by omega)
   have hnl:=num_len (n:=i - y) (by omega)
   have e1:IntKind.u64.wrap ((i:Int) - (y:Int))=((i - y:Nat):Int):=by rw [IntKind.wrap_u64]; omega
   have e2:IntKind.u64.wrap ((i:Int)+1)=((i+1:Nat):Int):=by rw [IntKind.wrap_u64]; omega
   have HX:Hid (num m++laidL 0 (S.take (j+1))=(num m++laidL 0 (S.take j))++num (i - y)∧nxt 0 (S.take (j+1))=i+1∧(num m++laidL 0 (S.take j)).length+(num (i - y)).length≤140737488355328∧Row8 wr w.heap.size (.slice (some ⟨g,0,none⟩) (num m++laidL 0 (S.take j)).length cap) (num m++laidL 0 (S.take j))∧Below w.heap.size w wr∧j+1≤m):=by
    refine ⟨by rw [htk,laidL_app,hy,List.append_assoc],by rw [htk,nxt_app],?_,⟨g,cap,rfl,hr⟩,hb,hlt⟩
    rw [List.length_append]
    omega
   generalize i - y=z at *
   generalize num m++laidL 0 (S.take j)=L at *
   clear hr hb k1 k2 k3 k4 hmm hz c1 c2 htk hln hi hy hnl hlt HR HS HZ HM
   go_wp2_with (first
    | (go_at_call 311; with_reducible refine (HN _).mono ?_; rintro x w1 ⟨rfl,hb1⟩)
    | (at_builtin; refine wpList_append_8 _ rfl _ _ rfl w.heap.size _ L rfl (HX.out.2.2.2.1.next hb1) ⟨(num z).toArray⟩ rfl ?c1 ?c2 ?_))
   case c1=>have:=HX.out.2.2.1; rw [show (⟨(num z).toArray⟩:ByteArray).size=(num z).length from by simp [ByteArray.size]]; exact this
   case c2=>exact Nat.le_trans HX.out.2.2.2.2.1.size hb1.size
   intro v2 w2 r2 b2
   go_wp2
   go_roundg (m - (j+1))
   case rel =>
    go_light
    obtain ⟨x1,x2,x3,x4,x5,x6⟩:=HX.out
    refine ⟨j+1,x6,rfl,by go_num,by rw [x2,Int.natCast_add]; rfl,?_,(x5.trans (hb1.mono x5.size)).trans b2⟩
    rw [x1]; exact r2
   case measure=>go_light; have:=HX.out.2.2.2.2.2; omega
  ·obtain rfl:j=m:=by omega
   have hlt' : ¬ (j:Int)<(j:Int):=by omega
   have e:S.take j=S:=by rw [← hmm,List.take_length]
   rw [e] at hr
   obtain ⟨L,hL⟩ : ∃ L,num j++laidL 0 S=L:=⟨_,rfl⟩
   rw [hL] at hr
   have HL:=hideC hL
   clear hL
   have cv:=hr.conv
   obtain ⟨g,cap,rfl,hr⟩:=hr
   have HB:=hideC hb
   clear hr hb k1 k2 k3 k4 hmm hz hlt e HR HS HZ HM
   go_wp2
   go_ret
   refine ⟨?_,HB.out⟩
   rw [HL.out]
   rfl
def hd (p:PV):List UInt8:=UInt8.ofNat p.kd.toNat::UInt8.ofNat p.k.toNat::(num p.size++mid p)
theorem enc_hd (p:PV):enc p=hd p++flatC p.D:=by simp [enc,hd,List.append_assoc]
theorem str_add (a b:List UInt8):(⟨a.toArray⟩:ByteArray)++⟨b.toArray⟩=⟨(a++b).toArray⟩:=by
 apply ba_ext
 rw [ByteArray.data_append]
 simp
theorem two_bytes (w:World) (a b:Nat) (ha:a<256) (hb:b<256):(convert 127 9 (.slice (some ⟨w.heap.size,0,none⟩) 2 2)).run Tryz.prog (w.alloc (.cells #[.int .u8 (a:Int),.int .u8 (b:Int)] 5)) = .ok (.string ⟨[UInt8.ofNat a,UInt8.ofNat b].toArray⟩) (w.alloc (.cells #[.int .u8 (a:Int),.int .u8 (b:Int)] 5)):=by
 refine run_convert_bytes_back _ 127 9 5 ⟨w.heap.size,0,none⟩ 2 [UInt8.ofNat a,UInt8.ofNat b] Tryz.underlying127 Tryz.underlying5 Tryz.underlying9 fun j hj => ?_
 rw [Addr.add_mid]
 have h1:=ofNat_toNat ha
 have h2:=ofNat_toNat hb
 refine range_new w [.int .u8 (a:Int),.int .u8 (b:Int)] 5 j _ ?_
 match j,hj with
 | 0,_=>simp [h1]
 | 1,_=>simp [h2]
theorem two_at {W:World} {g a b:Nat} (ha:a<256) (hb:b<256) (h:W.heap[g]? = some (.cells #[.int .u8 (a:Int),.int .u8 (b:Int)] 5 (0,0))):(convert 127 9 (.slice (some ⟨g,0,none⟩) 2 2)).run Tryz.prog W = .ok (.string ⟨[UInt8.ofNat a,UInt8.ofNat b].toArray⟩) W:=by
 refine run_convert_bytes_back _ 127 9 5 ⟨g,0,none⟩ 2 [UInt8.ofNat a,UInt8.ofNat b] Tryz.underlying127 Tryz.underlying5 Tryz.underlying9 fun j hj => ?_
 rw [Addr.add_mid,Nat.zero_add,cell_of_row W g j _ _ (0,0) h]
 have h1:=ofNat_toNat ha
 have h2:=ofNat_toNat hb
 match j,hj with
 | 0,_=>simp [h1]
 | 1,_=>simp [h2]
theorem undrew {X w1:World} (h:Below X.drew.heap.size X.drew w1):Below X.heap.size X w1:=⟨h.os,h.tape,h.output,h.size,h.block⟩
theorem redrew {B:Nat} {X w1:World} (h:Below B X w1):Below B X w1.drew:=⟨h.os,h.tape,h.output,h.size,h.block⟩
set_option maxRecDepth 100000 in
set_option maxHeartbeats 4000000 in
theorem numbers_any (w:World) (a b old size:Nat) (sa:Option Addr) (sb so sc:Nat) (S:List Nat) (D:List ByteArray) (d:Value) (c:Nat) (rs:RdU w sa sb so S.length S) (ho:CntOk a b old size S c) :
  Calls Tryz.prog 219 #[pv6 a b old size (.slice sa S.length sc) d] w fun e w'=>e = .returned (.string ⟨(hd ⟨a,b,old,size,S,D⟩).toArray⟩)∧Below w.heap.size w w':=by
 obtain ⟨W,hW,h6,hbw,hz2⟩:=box6 w (.int .i64 (a:Int)) (.int .i64 (b:Int)) (.int .u64 (old:Int)) (.int .u64 (size:Int)) (.slice sa S.length sc) d
 obtain ⟨e0,e1,e2,e3,e4,e5⟩:=h6.cells
 have i1:=ho.kd1
 have i2:=ho.kd3
 have i3:=ho.k1
 have i4:=ho.k32
 have i5:=ho.hsz
 have i6:=ho.hold
 have i7:=ho.len
 have ha:a<256:=by omega
 have hb:b<256:=by omega
 have HN:=fun W'=>num_any W' size (by omega)
 have ea:IntKind.u8.wrap (a:Int)=(a:Int):=by rw [IntKind.wrap_u8]; omega
 have eb:IntKind.u8.wrap (b:Int)=(b:Int):=by rw [IntKind.wrap_u8]; omega
 have ht:=fun W'=>two_bytes W' a b ha hb
 have ht1:=fun (W':World)=>two_at (W:=(W'.alloc (.cells #[.int .u8 (a:Int),.int .u8 (b:Int)] 5)).drew) ha hb (heap_alloc_new W' _)
 have HA:Hid (∀ w1,Below (W.alloc (.cells #[.int .u8 (a:Int),.int .u8 (b:Int)] 5)).heap.size (W.alloc (.cells #[.int .u8 (a:Int),.int .u8 (b:Int)] 5)) w1→(convert 127 9 (.slice (some ⟨W.heap.size,0,none⟩) 2 2)).run Tryz.prog w1 = .ok (.string ⟨[UInt8.ofNat a,UInt8.ofNat b].toArray⟩) w1):=fun w1 hb1=>two_at ha hb ((hb1.block _ (by simp)).trans (heap_alloc_new W _))
 have HX:Hid (∀ w1,Below W.heap.size W w1→Six w1 w.heap.size (.int .i64 (a:Int)) (.int .i64 (b:Int)) (.int .u64 (old:Int)) (.int .u64 (size:Int)) (.slice sa S.length sc) d):=fun w1 h=>h6.next h
 have hne : ¬ w.heap.size=W.heap.size:=by omega
 obtain ⟨n0,n1,n2,n3,n4,n5⟩:=(h6.next (bal (Below.refl _ _) (.cells #[.int .u8 (a:Int),.int .u8 (b:Int)] 5))).cells
 have hnl:=num_len (n:=size) (by omega)
 have HRS:Hid (∀ F,Below W.heap.size W F→RdU F sa sb so S.length S∧Below w.heap.size w F):=fun F hF=>⟨rs.next (bnext hbw hF),bnext hbw hF⟩
 have HO:=hideC ho
 obtain ⟨t1,ht1e⟩ : ∃ t1,(⟨[UInt8.ofNat a,UInt8.ofNat b].toArray⟩:ByteArray)=t1:=⟨_,rfl⟩
 obtain ⟨t2,ht2e⟩ : ∃ t2,(⟨(num size).toArray⟩:ByteArray)=t2:=⟨_,rfl⟩
 have hs1:(t1.size:Int)≤2:=by rw [← ht1e]; simp [ByteArray.size]
 have hs2:(t2.size:Int)≤10:=by rw [← ht2e]; simp [ByteArray.size]; omega
 have HT:Hid (∀ l,l=mid ⟨a,b,old,size,S,D⟩→t1++t2++(⟨l.toArray⟩:ByteArray)=⟨(hd ⟨a,b,old,size,S,D⟩).toArray⟩):=fun l hl=>by
  rw [← ht1e,← ht2e,str_add,str_add,hl]
  simp [hd]
 rw [ht1e] at HA
 simp only [ht1e] at ht ht1
 simp only [ht2e] at HN
 have HI:Hid ((a=1∨a=2∨a=3)∧size≤1099511627776∧old≤size):=⟨by omega,i5,i6⟩
 clear h6 hbw ha hb hz2 hnl ht1e ht2e ho rs i1 i2 i3 i4 i5 i6 i7
 go_enter Tryz.func219,Tryz.ntmps219
 go_upto_region 1 with (fail)
 try rw [hW]
 clear hW
 rename_i K hK
 have HKK:Hid (∀ F g,Below W.heap.size W F→K { tmps:=#[pv6 (a:Int) (b:Int) old size (.slice sa S.length sc) d,.pointer (some ⟨w.heap.size,0,none⟩),.string ⟨#[]⟩,.string (t1++t2),.pointer (some ⟨w.heap.size,0,none⟩),.int .i64 (a:Int),.int .u8 (a:Int),.pointer (some ⟨w.heap.size,1,none⟩),.int .i64 (b:Int),.int .u8 (b:Int),.slice (some ⟨g,0,none⟩) 2 2,.string t1,.pointer (some ⟨w.heap.size,3,none⟩),.int .u64 (size:Int),.string t2,.string (t1++t2),undef,undef,undef,undef,undef,undef,undef,undef,undef,undef,undef,undef,undef,undef,undef,undef,undef,undef,undef,undef,undef,undef,undef],defers:=[] } F):=by
  intro F g hF
  refine hK _ _ ?_
  obtain ⟨k0,k1,k2,k3,k4,k5⟩:=(HX.out _ hF).cells
  obtain ⟨RF,BF⟩:=HRS.out _ hF
  have HB:=hideC BF
  clear n0 n1 n2 n3 n4 n5 e0 e1 e2 e3 e4 e5 ht ht1 HA HN hF hK hne
  rcases HI.out.1 with h | h | h
  ·have hb1:((a:Int) == 1)=true:=beq_iff_eq.2 (by omega)
   obtain ⟨hl,ho⟩:=HO.out.one (by omega)
   obtain rfl:=RF.ptr (by omega)
   have hc:=RF.at (j:=0) (by omega)
   rw [Nat.add_zero] at hc
   have h0:(0:Int)<(S.length:Int):=by omega
   have h0':0<S.length:=by omega
   have hlt:=(chain_at HO.out.chain 0 (by omega)).2
   have HM:=fun W'=>num_any W' (S.getD 0 0) (by have:=HI.out; omega)
   have hnl:=num_len (n:=S.getD 0 0) (by have:=HI.out; omega)
   have HT2:Hid (t1++t2++(⟨(num (S.getD 0 0)).toArray⟩:ByteArray)=⟨(hd ⟨a,b,old,size,S,D⟩).toArray⟩):=HT.out _ (by rw [mid,if_pos (show (a:Int)=1 by omega)])
   generalize S.getD 0 0=i at *
   obtain ⟨t3,ht3⟩ : ∃ t3,(⟨(num i).toArray⟩:ByteArray)=t3:=⟨_,rfl⟩
   have hs3:(t3.size:Int)≤10:=by rw [← ht3]; simp [ByteArray.size]; omega
   simp only [ht3] at HM
   rw [ht3] at HT2
   clear h hl ho hlt hnl ht3 RF BF
   go_wp2_with (go_at_call 311; with_reducible refine (HM _).mono ?_; rintro x w3 ⟨rfl,hb3⟩)
   go_ret
   exact ⟨by rw [← HT2.out]; rfl,bnext HB.out hb3⟩
  ·have hb1:((a:Int) == 1)=false:=beq_false_of_ne (by omega)
   have hb2:((a:Int) == 2)=true:=beq_iff_eq.2 (by omega)
   have HM:=laid_any F sa sb so sc S size RF HO.out.chain HI.out.2.1
   have hll:=laidL_le HO.out.chain (by have:=HI.out; omega)
   have hln:=HO.out.len
   have hnl:=num_len (n:=S.length) (by have:=HI.out; omega)
   have HT2:Hid (t1++t2++(⟨(num S.length++laidL 0 S).toArray⟩:ByteArray)=⟨(hd ⟨a,b,old,size,S,D⟩).toArray⟩):=HT.out _ (by rw [mid,if_neg (show ¬ (a:Int)=1 by omega),if_pos (show (a:Int)=2 by omega)])
   obtain ⟨t3,ht3⟩ : ∃ t3,(⟨(num S.length++laidL 0 S).toArray⟩:ByteArray)=t3:=⟨_,rfl⟩
   have hs3:(t3.size:Int)≤35184372088832:=by rw [← ht3]; have:=HI.out; simp [ByteArray.size]; omega
   rw [ht3] at HT2 HM
   clear h hll hln hnl ht3 RF BF
   go_wp2_with (go_at_call 312; with_reducible refine HM.mono ?_; rintro x w3 ⟨rfl,hb3⟩)
   go_ret
   exact ⟨by rw [← HT2.out]; rfl,bnext HB.out hb3⟩
  ·have hb1:((a:Int) == 1)=false:=beq_false_of_ne (by omega)
   have hb2:((a:Int) == 2)=false:=beq_false_of_ne (by omega)
   have HM:=fun W'=>num_any W' old (by have:=HI.out; omega)
   have hnl:=num_len (n:=old) (by have:=HI.out; omega)
   have HT2:Hid (t1++t2++(⟨(num old).toArray⟩:ByteArray)=⟨(hd ⟨a,b,old,size,S,D⟩).toArray⟩):=HT.out _ (by rw [mid,if_neg (show ¬ (a:Int)=1 by omega),if_neg (show ¬ (a:Int)=2 by omega)])
   obtain ⟨t3,ht3⟩ : ∃ t3,(⟨(num old).toArray⟩:ByteArray)=t3:=⟨_,rfl⟩
   have hs3:(t3.size:Int)≤10:=by rw [← ht3]; simp [ByteArray.size]; omega
   simp only [ht3] at HM
   rw [ht3] at HT2
   clear h hnl ht3 RF BF
   go_wp2_with (go_at_call 311; with_reducible refine (HM _).mono ?_; rintro x w3 ⟨rfl,hb3⟩)
   go_ret
   exact ⟨by rw [← HT2.out]; rfl,bnext HB.out hb3⟩
 clear hK HT HI HO HRS
 go_region_with (go_at_call 311; (with_reducible refine (HN _).mono ?_); rintro x w1 ⟨rfl,hb1⟩; (have hb2:Below W.heap.size W w1:=by first | exact hb1 | exact undrew hb1 | exact bnext (bal (Below.refl _ _) _) hb1 | exact bnext (bal (Below.refl _ _) _) (undrew hb1)); (obtain ⟨k0,k1,k2,k3,k4,k5⟩:=(HX.out _ hb2).cells); (first | (have hcv:=HA.out _ (undrew hb1)) | (have hcv:=HA.out _ hb1) | skip))
 all_goals exact HKK.out _ _ (by first | exact hb2 | exact redrew hb2 | exact bal hb2 _ | exact redrew (bal hb2 _) | exact bal (redrew hb2) _ | exact redrew (redrew hb2) | exact redrew (bal (redrew hb2) _))
end Go.Proofs.YtoblgjledefdbaaGreatDoor
