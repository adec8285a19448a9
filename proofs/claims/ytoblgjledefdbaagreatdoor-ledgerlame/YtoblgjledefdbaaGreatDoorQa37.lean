/- Own work. -/
import Derived.Laws.IdiomStrings
import Derived.Test.YtoblgjledefdbaaGreatDoorProg
import Derived.Deep.MidRow
import Derived.Below
import Derived.WalkKit
import Derived.WalkSpells
import Derived.Outline
import Derived.KernelRfl
import Derived.Deep.LoopGhost
import Derived.Deep.RegionHeld3
import Derived.Deep.RegionWith
import Derived.Deep.DrawnRows
import Derived.Deep.Light
import Derived.Laws.BitsAllLaws
import Derived.BigQuiet
import Derived.Deep.Onto
import Derived.ArgAppend
import Derived.Laws.AppendOwnNone
import Derived.Handy
import Derived.Shelf.Strings.OnBuilder
import Derived.Deep.DeepMakePanics
import Derived.OwnWalk
import Derived.WalkLawsBesides
import Derived.Test.YtoblgjledefdbaaGreatDoorQa35
import Derived.Test.YtoblgjledefdbaaGreatDoorQa36
namespace Go.Proofs.YtoblgjledefdbaaGreatDoor
open Go.RowKit
open Cv (RdC zl cU)
attribute [local go_sem ↓] Go.wp_at_zero Go.wp_at_succ
theorem keep_row {w w':World} {B T s n:Nat} {x:Value} {cs:List Value} (h:w.ownsRow B T s x n cs) (hk : ∀ g,x.ownBlock=some g→B≤g→w'.heap[g]? = w.heap[g]?):w'.ownsRow B T s x n cs:=by
 obtain ⟨h1,h2⟩:=h
 refine ⟨h1,?_⟩
 rcases h2 with h2 | ⟨g,cap,cur,rfl,hg,hh,h3⟩
 ·exact .inl h2
 ·exact .inr ⟨g,cap,cur,rfl,hg,(hk g rfl hg).trans hh,h3⟩
structure ChT (S:Nat→Prop) (w w':World):Prop where
 os:w'.os=w.os
 tape:w'.tape=w.tape
 output:w'.output=w.output
 size:w'.heap.size=w.heap.size
 block : ∀ b,¬ S b→w'.heap[b]? = w.heap[b]?
theorem ChT.refl (S:Nat→Prop) (w:World):ChT S w w:=⟨rfl,rfl,rfl,rfl,fun _ _=>rfl⟩
theorem ChT.set {S:Nat→Prop} {w w':World} (h:ChT S w w') (b i:Nat) (v:Value) (hb:S b):ChT S w (w'.setCell ⟨b,i,none⟩ v):=by
 have h0:=(Below.refl 0 w').setCell (p:=⟨b,i,none⟩) (Nat.zero_le _) v
 refine ⟨h0.os.trans h.os,h0.tape.trans h.tape,h0.output.trans h.output,by rw [← h.size]; simp,fun c hc => ?_⟩
 rw [← h.block c hc]
 exact Below.heap_setCell _ _ _ _ (by show c≠b; rintro rfl; exact hc hb)
def Six (w:World) (s:Nat) (a b c d e f:Value):Prop:=w.heap[s]? = some (.cells #[a,b,c,d,e,f] 138 (0,0))
section
variable {w W:World} {s:Nat} {a b c d e f:Value}
theorem Six.cells (h:Six w s a b c d e f):w.cell? ⟨s,0,none⟩=some a∧w.cell? ⟨s,1,none⟩=some b∧w.cell? ⟨s,2,none⟩=some c∧w.cell? ⟨s,3,none⟩=some d∧w.cell? ⟨s,4,none⟩=some e∧w.cell? ⟨s,5,none⟩=some f :=
 ⟨by rw [cell_of_row w s 0 _ _ (0,0) h]; rfl,by rw [cell_of_row w s 1 _ _ (0,0) h]; rfl,by rw [cell_of_row w s 2 _ _ (0,0) h]; rfl,by rw [cell_of_row w s 3 _ _ (0,0) h]; rfl,by rw [cell_of_row w s 4 _ _ (0,0) h]; rfl,by rw [cell_of_row w s 5 _ _ (0,0) h]; rfl⟩
theorem Six.fz (h:Six w s a b c d e f) (j:Nat):w.frozen? ⟨s,j,none⟩=false:=frozen_of_row w s j _ _ h
theorem Six.lt (h:Six w s a b c d e f):s<w.heap.size:=(Array.getElem?_eq_some_iff.1 h).1
theorem Six.same (h:Six w s a b c d e f) (hb:W.heap[s]? = w.heap[s]?):Six W s a b c d e f:=hb.trans h
theorem Six.next (h:Six w s a b c d e f) (hb:Below w.heap.size w W):Six W s a b c d e f:=h.same (hb.block s h.lt)
theorem six_new (w:World) (a b c d e f:Value):Six (w.alloc (.cells #[a,b,c,d,e,f] 138)) w.heap.size a b c d e f:=heap_alloc_new w _
def put6 (w:World) (s:Nat) (a b c d e f:Value):World:=(((((w.setCell ⟨s,0,none⟩ a).setCell ⟨s,1,none⟩ b).setCell ⟨s,2,none⟩ c).setCell ⟨s,3,none⟩ d).setCell ⟨s,4,none⟩ e).setCell ⟨s,5,none⟩ f
theorem Six.put (h:Six w s a b c d e f) (a' b' c' d' e' f':Value):Six (put6 w s a' b' c' d' e' f') s a' b' c' d' e' f':=by
 have h0:=heap_setCell_same w s 0 _ _ a' h
 have h1:=heap_setCell_same _ s 1 _ _ b' h0
 have h2:=heap_setCell_same _ s 2 _ _ c' h1
 have h3:=heap_setCell_same _ s 3 _ _ d' h2
 have h4:=heap_setCell_same _ s 4 _ _ e' h3
 exact heap_setCell_same _ s 5 _ _ f' h4
theorem put6_ch (w:World) (s:Nat) (a b c d e f:Value):ChT (fun x=>x=s) w (put6 w s a b c d e f) :=
 ((((((ChT.refl (fun x=>x=s) w).set s 0 a rfl).set s 1 b rfl).set s 2 c rfl).set s 3 d rfl).set s 4 e rfl).set s 5 f rfl
end
theorem ChT.below {S:Nat→Prop} {w w':World} (h:ChT S w w') {B:Nat} (hS : ∀ b,S b→B≤b):Below B w w' :=
 ⟨h.os,h.tape,h.output,Nat.le_of_eq h.size.symm,fun b hb=>h.block b fun hs=>by have:=hS b hs; omega⟩
structure RdU (w:World) (ao:Option Addr) (b off len:Nat) (l:List Nat):Prop where
 hl:l.length=len
 ptr:0<len→ao=some ⟨b,off,none⟩
 rng:w.rangeAt b off (cU l)
theorem RdU.at {w:World} {ao:Option Addr} {b off len:Nat} {l:List Nat} (h:RdU w ao b off len l) {j:Nat} (hj:j<len):w.cell? ⟨b,off+j,none⟩=some (.int .u64 (l.getD j 0:Nat)) :=
 h.rng j _ (by have:=h.hl; simp [List.getElem?_eq_getElem (show j<l.length by omega),List.getD_eq_getElem?_getD])
theorem RdU.next {w W:World} {ao:Option Addr} {b off len:Nat} {l:List Nat} (h:RdU w ao b off len l) (hb:Below w.heap.size w W):RdU W ao b off len l:=by
 refine ⟨h.hl,h.ptr,fun j v hv => ?_⟩
 have:=h.rng j v hv
 exact (hb.cell (World.block_lt_of_cell? w _ this)).trans this
theorem rdu_rdc {w:World} {ao:Option Addr} {b off len cap:Nat} {l:List Nat} (h:RdU w ao b off len l) (hn:ao=none→cap=0):RdC w (.slice ao len cap) len (cU l):=by
 refine ⟨ao,cap,rfl,fun e=>⟨?_,hn e⟩,fun ad ha j c hj => ?_⟩
 ·apply Classical.byContradiction
  intro h0
  have:=h.ptr (by omega)
  rw [e] at this
  cases this
 ·have hj':j<len:=by have:=(List.getElem?_eq_some_iff.1 hj).1; rw [List.length_map,h.hl] at this; exact this
  have:=h.ptr (by omega)
  rw [ha] at this
  cases this
  rw [Addr.add_mid]
  exact h.rng j c hj
theorem ownU_form {w:World} {B:Nat} {v:Value} {l:List Nat} (h:Cv.Own w B v l) (h0:0<l.length) : ∃ g cap,v = .slice (some ⟨g,0,none⟩) l.length cap∧B≤g∧l.length≤cap∧cap≤maxLen∧g<w.heap.size:=by
 obtain ⟨h1,h2⟩:=h
 rcases h2 with ⟨_,h2⟩ | ⟨g,cap,cur,hv,hg,hh,hc,hm,_⟩
 ·omega
 ·exact ⟨g,cap,hv,hg,hc,hm,(Array.getElem?_eq_some_iff.1 hh).1⟩
theorem own_rdu {w:World} {B g n c:Nat} {l l':List Nat} (o:Cv.Own w B (.slice (some ⟨g,0,none⟩) n c) (l++l')):RdU w (some ⟨g,0,none⟩) g 0 l.length l :=
 ⟨rfl,fun _=>rfl,fun t v hv=>by
  have:=o.cells (g:=g) rfl t v (by rw [show cU (l++l')=cU l++cU l' from List.map_append,List.getElem?_append_left (by have:=(List.getElem?_eq_some_iff.1 hv).1; simpa using this)]; exact hv)
  rwa [Addr.add_mid] at this⟩
section
variable {q:Nat} {w w1 w2:World}
end
end Go.Proofs.YtoblgjledefdbaaGreatDoor
namespace Go.Proofs.YtoblgjledefdbaaGreatDoor
def num (n:Nat):List UInt8:=if n<128 then [UInt8.ofNat n] else UInt8.ofNat (n % 128+128)::num (n / 128)
termination_by n
decreasing_by omega
theorem num_low {n:Nat} (h:n<128):num n=[UInt8.ofNat n]:=by rw [num,if_pos h]
theorem num_high {n:Nat} (h:128≤n):num n=UInt8.ofNat (n % 128+128)::num (n / 128):=by rw [num,if_neg (by omega)]
def scan:List UInt8→Nat→Nat→Nat×Nat×Nat
 | [],_,_=>(0,60,0)
 | b::r,i,n =>
  if i=9∧1<b.toNat then (0,61,0)
  else if b.toNat<128 then (if b.toNat=0∧0<i then (0,61,0) else (n+b.toNat * 128^i,0,i+1))
  else scan r (i+1) (n+(b.toNat % 128) * 128^i)
theorem ofNat_toNat {x:Nat} (h:x<256):(UInt8.ofNat x).toNat=x:=by
 rw [UInt8.toNat_ofNat']; exact Nat.mod_eq_of_lt h
theorem pow_le9 {i:Nat} (h:i≤9):128^i≤128^9:=Nat.pow_le_pow_right (by decide) h
theorem scan_num (t:List UInt8) : ∀ (m i acc:Nat),acc<128^i→acc+m * 128^i<2^64→i≤9→(i=0∨0<m) →
  scan (num m++t) i acc=(acc+m * 128^i,0,i+(num m).length):=by
 intro m
 induction m using Nat.strongRecOn with
 | _ m ih =>
  intro i acc ha hn hi h0
  by_cases h:m<128
  ·rw [num_low h,List.singleton_append,scan,ofNat_toNat (by omega)]
   have h1 : ¬(i=9∧1<m):=by
    rintro ⟨rfl,h1⟩
    have:2 * 128^9≤m * 128^9:=Nat.mul_le_mul_right _ h1
    have e:2 * 128^9=2^64:=by decide
    omega
   rw [if_neg h1,if_pos h,if_neg (by omega)]
   rfl
  ·rw [num_high (by omega),List.cons_append,scan,ofNat_toNat (by omega)]
   have h1:i≠9:=by
    rintro rfl
    have:128 * 128^9≤m * 128^9:=Nat.mul_le_mul_right _ (by omega)
    have e:2^64≤128 * 128^9:=by decide
    omega
   rw [if_neg (by omega),if_neg (by omega)]
   have hs:acc+(m % 128+128) % 128 * 128^i+m / 128 * 128^(i+1)=acc+m * 128^i:=by
    rw [Nat.add_mod_right,Nat.mod_mod,Nat.pow_succ,Nat.mul_comm (128^i),← Nat.mul_assoc,Nat.add_assoc,← Nat.add_mul,Nat.mod_add_div']
   have hlt:acc+(m % 128+128) % 128 * 128^i<128^(i+1):=by
    rw [Nat.add_mod_right,Nat.mod_mod,Nat.pow_succ]
    have:m % 128 * 128^i≤127 * 128^i:=Nat.mul_le_mul_right _ (by omega)
    omega
   rw [ih (m / 128) (by omega) (i+1) _ hlt (by rw [hs]; exact hn) (by omega) (.inr (by omega)),hs,List.length_cons]
   exact congrArg (fun x=>(acc+m * 128^i,0,x)) (by omega)
theorem scan_back : ∀ (l:List UInt8) (i acc n k:Nat),acc<128^i→i≤9→scan l i acc=(n,0,k) →
  ∃ m,n=acc+m * 128^i∧num m=l.take (k - i)∧i<k∧k≤10∧k - i≤l.length∧(0<i→0<m)∧n<2^64:=by
 intro l
 induction l with
 | nil=>intro i acc n k _ _ h; simp [scan] at h
 | cons b r ih =>
  intro i acc n k ha hi h
  rw [scan] at h
  by_cases h1:i=9∧1<b.toNat
  ·rw [if_pos h1] at h; simp at h
  ·rw [if_neg h1] at h
   by_cases h2:b.toNat<128
   ·rw [if_pos h2] at h
    by_cases h3:b.toNat=0∧0<i
    ·rw [if_pos h3] at h; simp at h
    ·rw [if_neg h3] at h
     simp only [Prod.mk.injEq,true_and] at h
     obtain ⟨rfl,rfl⟩:=h
     refine ⟨b.toNat,rfl,?_,by omega,by omega,by simp,by omega,?_⟩
     ·rw [num_low h2,Nat.add_sub_cancel_left]
      simp
     ·have e9:(128:Nat)^9=9223372036854775808:=by decide
      rcases Nat.lt_or_ge i 9 with h9 | h9
      ·have hp:128^(i+1)≤128^9:=pow_le9 (by omega)
       have:b.toNat * 128^i≤127 * 128^i:=Nat.mul_le_mul_right _ (by omega)
       rw [Nat.pow_succ] at hp
       omega
      ·obtain rfl:i=9:=by omega
       have:b.toNat * 128^9≤1 * 128^9:=Nat.mul_le_mul_right _ (by omega)
       omega
   ·rw [if_neg h2] at h
    have h9:i≠9:=by omega
    have hlt:acc+b.toNat % 128 * 128^i<128^(i+1):=by
     rw [Nat.pow_succ]
     have:b.toNat % 128 * 128^i≤127 * 128^i:=Nat.mul_le_mul_right _ (by omega)
     omega
    obtain ⟨m,rfl,h4,h5,h6,h7,h8,h10⟩:=ih (i+1) _ n k hlt (by omega) h
    have hm:=h8 (by omega)
    have hb:=b.toNat_lt
    refine ⟨b.toNat % 128+128 * m,?_,?_,by omega,h6,by simp; omega,by omega,h10⟩
    ·rw [Nat.add_mul,Nat.pow_succ,Nat.mul_comm (128^i),← Nat.mul_assoc,Nat.mul_comm m,Nat.add_assoc]
    ·rw [num_high (by omega),show (b.toNat % 128+128 * m) / 128=m by omega,h4,show (b.toNat % 128+128 * m) % 128+128=b.toNat by omega,
      show k - i=(k - (i+1))+1 by omega,List.take_succ_cons]
     simp
theorem num_len {n:Nat} (h:n<2^64):(num n).length≤10:=by
 have:=scan_num [] n 0 0 (by decide) (by simpa using h) (by omega) (.inl rfl)
 obtain ⟨m,h1,h2,h3,h4,h5,_⟩:=scan_back _ 0 0 _ _ (by decide) (by omega) this
 omega
end Go.Proofs.YtoblgjledefdbaaGreatDoor
namespace Go.Proofs.YtoblgjledefdbaaGreatDoor
open Go.RowKit
attribute [local go_sem ↓] Go.wp_at_zero Go.wp_at_succ
theorem hideC {q:Prop} (h:q):Hid q:=h
def cY (l:List UInt8):List Value:=l.map fun b=>Value.int .u8 (b.toNat:Int)
theorem cY_len (l:List UInt8):(cY l).length=l.length:=by simp [cY]
theorem Tryz.infoY:(Tryz.prog.info? 5).map (fun i=>(i.zero,i.size,i.bytes))=some (some (.int .u8 0),1,1):=by kernel_rfl
def OwnY (w:World) (B:Nat) (v:Value) (l:List UInt8):Prop:=w.ownsRow B 5 1 v l.length (cY l)
theorem owny_conv {w:World} {B:Nat} {v:Value} {l:List UInt8} (h:OwnY w B v l):(convert 127 9 v).run Tryz.prog w = .ok (.string ⟨l.toArray⟩) w:=by
 have hc:=fun g=>h.cells (g:=g)
 obtain ⟨h1,h2⟩:=h
 rcases h2 with ⟨rfl,h0⟩ | ⟨g,cap,cur,rfl,hg,hh,r⟩
 ·have:l=[]:=List.length_eq_zero_iff.1 h0
  subst this
  exact run_convert_bytes_nil w 127 5 Tryz.underlying127 Tryz.underlying5 0 0 9 Tryz.underlying9
 ·refine run_convert_bytes_back _ 127 9 5 ⟨g,0,none⟩ cap l Tryz.underlying127 Tryz.underlying5 Tryz.underlying9 fun j hj => ?_
  exact hc g rfl j _ (by simp [cY,List.getElem?_eq_getElem hj])
theorem owny_own {w:World} {B:Nat} {v:Value} {l:List UInt8} (h:OwnY w B v l) : ∀ k,v.ownBlock=some k→B≤k:=by
 obtain ⟨_,h2⟩:=h
 rcases h2 with ⟨rfl,_⟩ | ⟨g,cp,cur,rfl,hg,_⟩
 ·intro k hk; cases hk
 ·intro k hk; cases hk; exact hg
theorem owny_new (w:World):OwnY (w.alloc (.cells #[] 5)) w.heap.size (.slice (some ⟨w.heap.size,0,none⟩) 0 0) [] :=
 ⟨rfl,.inr ⟨w.heap.size,0,#[],rfl,Nat.le_refl _,heap_alloc_new w _,Nat.le_refl _,by unfold maxLen; omega,rfl,rfl⟩⟩
theorem wpList_append_Y (w:World) {ops:Array Oper} {rest:List Oper} {o:Oper} {a:Act} {Q:Exit→Act→World→Prop}
  (hg:o.guard=none) (s x:Operand) (hop:o.op=Op.call { callee:=Callee.builtin Builtin.append,args:=#[s,x],argTypes:=#[127,127] })
  (B:Nat) (v:Value) (L:List UInt8) (hs:a.eval s=v) (hown:OwnY w B v L) (y:Nat) (b:UInt8) (hb:y=b.toNat) (hx:a.eval x = .slice (some ⟨w.heap.size,0,none⟩) 1 1)
  (hlen:L.length≤1000) (hB:B≤w.heap.size)
  (hK : ∀ v' w',OwnY w' B v' (L++[b])→Below B w w'→wpList Tryz.prog ops Q rest (a.put o.dst v') w'):wpList Tryz.prog ops Q (o::rest) a (w.alloc (.cells #[.int .u8 (y:Int)] 5)):=by
 obtain ⟨i0,hi,hz0,hz1,hz2⟩:=info_parts Tryz.infoY
 subst hb
 refine wpList_append_own _ hg s x _ hop B 5 i0 (.int .u8 0) 1 1 Tryz.underlying127 hi hz0 hz1 hz2 rfl (by decide) _ _ _ hs (World.ownsRow.alloc hown _) ⟨w.heap.size,0,none⟩ 1 1 (cY [b]) hx (by simp [cY]) ?_ (by intro u hu; simp [cY] at hu; subst hu; rfl) (by unfold maxLen; omega) (by omega) (by simp; omega) ?_
 ·intro j u hu
  have hj:j=0:=by have:=(List.getElem?_eq_some_iff.1 hu).1; simp [cY] at this; exact this
  subst hj
  have hu':Value.int .u8 (b.toNat:Int)=u:=Option.some.inj hu
  subst hu'
  rw [Addr.add_mid,World.cell?_alloc_new]
  rfl
 ·intro v' w' h1 h2 _
  refine hK v' w' ?_ (((Below.refl _ _).alloc hB _).trans ((Below.refl _ _).grown h2 (by simp; omega) (owny_own hown)))
  rw [OwnY,List.length_append,cY,List.map_append]; exact h1
set_option maxRecDepth 100000 in
theorem or128 : ∀ x:Nat,x<256→x ||| 128=x % 128+128:=by decide
theorem byte_hi (n:Nat):bits .or .u8 ((n:Int) % 256) 128=((UInt8.ofNat (n % 128+128)).toNat:Int):=by
 rw [ofNat_toNat (by omega)]
 have:=u8_or_nat (n % 256) 128 (by omega) (by decide)
 rw [show ((n % 256:Nat):Int)=(n:Int) % 256 by omega,show ((128:Nat):Int)=128 from rfl] at this
 rw [this,or128 _ (by omega)]
 omega
set_option maxRecDepth 100000 in
theorem num_any (w:World) (n:Nat) (hn:n<18446744073709551616) :
  Calls Tryz.prog 311 #[.int .u64 (n:Int)] w fun x w'=>x = .returned (.string ⟨(num n).toArray⟩)∧Below w.heap.size w w':=by
 have HL:=hideC (num_len (n:=n) hn)
 go_enter Tryz.func311,Tryz.ntmps311
 go_wp2
 go_loopg [0,3] n (fun g x v wr => ∃ (m:Nat) (pre:List UInt8),m=g∧x = .int .u64 (m:Int)∧OwnY wr w.heap.size v pre∧Hid (pre++num m=num n∧m≤n)∧Below w.heap.size w wr)
 case atStart =>
  go_light
  exact ⟨n,[],rfl,rfl,owny_new w,⟨rfl,Nat.le_refl _⟩,(Below.refl _ _).alloc (Nat.le_refl _) _⟩
 case round =>
  obtain ⟨m,pre,hg,rfl,hown,HP,hb⟩:=hrel
  subst hg
  have HS:Hid (pre.length≤10∧w.heap.size≤wr.heap.size):=by
   have:=congrArg List.length HP.out.1
   rw [List.length_append] at this
   have:=HL.out
   exact ⟨by omega,hb.size⟩
  by_cases hm:m<128
  ·have hm':(m:Int)<128:=by omega
   have HY:=hideC (ofNat_toNat (x:=m) (by omega)).symm
   have HR:Hid (pre++[UInt8.ofNat m]=num n):=by
    have:=HP.out.1
    rw [num_low hm] at this
    exact this
   go_wp2_with (at_builtin; refine wpList_append_Y _ rfl _ _ rfl w.heap.size _ pre rfl hown m (UInt8.ofNat m) HY.out rfl ?c1 ?c2 ?_)
   case c1=>have:=HS.out; omega
   case c2=>exact HS.out.2
   intro v' w2 r1 r2
   have hcv:=owny_conv r1
   rw [HR.out] at hcv
   go_wp2
   go_ret
   exact ⟨rfl,hb.trans r2⟩
  ·have hm' : ¬ (m:Int)<128:=by omega
   have hm2:(128:Int)≤(m:Int):=by omega
   obtain ⟨c,hc⟩ : ∃ c,c=UInt8.ofNat (m % 128+128):=⟨_,rfl⟩
   obtain ⟨y,hy⟩ : ∃ y,y=c.toNat:=⟨_,rfl⟩
   have ey:=byte_hi m
   rw [← hc,← hy] at ey
   have HY:=hideC hy
   clear hy
   have HR:Hid ((pre++[c])++num (m / 128)=num n∧m / 128≤n):=by
    have:=HP.out
    rw [num_high (by omega),← hc] at this
    exact ⟨by rw [← this.1]; simp,by omega⟩
   clear hc
   have HQ:Hid ((m:Int) / 128=((m / 128:Nat):Int)∧m / 128<m):=⟨by omega,by omega⟩
   go_wp2_with (at_builtin; refine wpList_append_Y _ rfl _ _ rfl w.heap.size _ pre rfl hown y c HY.out rfl ?c1 ?c2 ?_)
   case c1=>have:=HS.out; omega
   case c2=>exact HS.out.2
   intro v' w2 r1 r2
   have hb2:=hb.trans r2
   clear r2 hb hown
   go_wp2
   go_roundg (m / 128)
   case rel =>
    go_light
    exact ⟨m / 128,_,rfl,by rw [← HQ.out.1],r1,HR.out,hb2⟩
   case measure=>go_light; exact HQ.out.2
theorem range_belowC {B:Nat} {a w:World} (hb:Below B a w) {b o:Nat} {cs:List Value} (hlt:b<B) (h:a.rangeAt b o cs):w.rangeAt b o cs:=fun j v hv=>by
 rw [hb.cell (p:=⟨b,o+j,none⟩) hlt]; exact h j v hv
open Cv (RdC zl cU)
section
variable {w W:World} {s:Nat} {a b c d e f:Value}
end
section
variable {q:Nat} {w w1 w2:World}
end
end Go.Proofs.YtoblgjledefdbaaGreatDoor
namespace Go.Proofs.YtoblgjledefdbaaGreatDoor
open Cv (rst cov Chain errS Til)
structure PV where
 kd:Int
 k:Int
 old:Nat
 size:Nat
 S:List Nat
 D:List ByteArray
def cnt (kd k:Int) (old size:Nat) (S:List Nat):Option Nat :=
 if 1≤k∧k≤32∧size≤2^40 then
  if kd=1 then (if old=0∧S.length=1∧errS size S=0 then some (rst 0 size S).length else none)
  else if kd=2 then (if old=0∧errS size S=0 then some (rst 0 size S).length else none)
  else if kd=3 then (if old≤size∧S=[] then some ((cov 0 old).length+(cov old size).length) else none)
  else none
 else none
theorem til_len {A:Nat→Prop} {q:Nat} : ∀ {L:List (Nat×Nat)} {p:Nat},Til A q p L→L.length+p≤q:=by
 intro L
 induction L with
 | nil=>intro p h; have:=h.1; simp; omega
 | cons b L ih =>
  intro p h
  obtain ⟨h1,h2,h3,h4,h5,h6⟩:=h
  have:=ih h6
  have:=Cv.blk_lt b.1 b.2
  simp; omega
theorem rst_le {n:Nat} {S:List Nat} (hn:n≤2^40) (hc:Chain 0 S n):(rst 0 n S).length≤n:=til_len (Cv.rst_but n S hn hc)
theorem chain_len : ∀ {S:List Nat} {x n:Nat},Chain x S n→S.length+x≤n:=by
 intro S
 induction S with
 | nil=>intro x n h; have:x≤n:=h; simp; omega
 | cons i S ih=>intro x n h; have:=ih h.2; have:=h.1; simp; omega
structure CntOk (kd k:Int) (old size:Nat) (S:List Nat) (c:Nat):Prop where
 kd1:1≤kd
 kd3:kd≤3
 k1:1≤k
 k32:k≤32
 hsz:size≤1099511627776
 hc:c≤1099511627776
 hold:old≤size
 len:S.length≤size
 chain:Chain 0 S size
 one:kd=1→S.length=1∧old=0
 two:kd=2→old=0
 three:kd=3→S=[]
theorem cnt_ok {kd k:Int} {old size c:Nat} {S:List Nat} (h:cnt kd k old size S=some c):CntOk kd k old size S c:=by
 unfold cnt at h
 have e40:(2:Nat)^40=1099511627776:=by decide
 split at h
 ·rename_i h0
  obtain ⟨g1,g2,g3⟩:=h0
  split at h
  ·rename_i hk
   split at h
   ·rename_i h1
    obtain ⟨a1,a2,a3⟩:=h1
    have hc:=(Cv.errS_ok a3).2.2.2
    have hl:=chain_len hc
    have hr:=rst_le g3 hc
    cases h
    exact ⟨by omega,by omega,g1,g2,by omega,by omega,by omega,by omega,hc,fun _=>⟨a2,a1⟩,fun h=>by omega,fun h=>by omega⟩
   ·cases h
  ·rename_i hk1
   split at h
   ·rename_i hk
    split at h
    ·rename_i h1
     obtain ⟨a1,a3⟩:=h1
     have hc:=(Cv.errS_ok a3).2.2.2
     have hl:=chain_len hc
     have hr:=rst_le g3 hc
     cases h
     exact ⟨by omega,by omega,g1,g2,by omega,by omega,by omega,by omega,hc,fun h=>by omega,fun _=>a1,fun h=>by omega⟩
    ·cases h
   ·rename_i hk2
    split at h
    ·rename_i hk
     split at h
     ·rename_i h1
      obtain ⟨a1,a3⟩:=h1
      have h1:=Cv.cov_forty old (by omega)
      have h2:=Cv.cov_len old size a1 g3
      cases h
      subst a3
      exact ⟨by omega,by omega,g1,g2,by omega,by omega,a1,by simp,Nat.zero_le _,fun h=>by omega,fun h=>by omega,fun _=>rfl⟩
     ·cases h
    ·cases h
 ·cases h
def flatC (D:List ByteArray):List UInt8:=(D.map (·.data.toList)).flatten
theorem flat_cons (d:ByteArray) (D:List ByteArray):flatC (d::D)=d.data.toList++flatC D:=by simp [flatC]
theorem size_list (d:ByteArray):d.data.toList.length=d.size:=Array.length_toList
theorem flat_len {k:Nat} : ∀ {D:List ByteArray},(∀ d∈D,d.size=k)→(flatC D).length=D.length * k:=by
 intro D
 induction D with
 | nil=>intro _; simp [flatC]
 | cons d D ih =>
  intro h
  rw [flat_cons,List.length_append,size_list,h d (by simp),ih (fun x hx=>h x (by simp [hx])),List.length_cons,Nat.add_mul,Nat.one_mul,Nat.add_comm]
def laidL:Nat→List Nat→List UInt8
 | _,[]=>[]
 | x,i::S=>num (i - x)++laidL (i+1) S
def nxt:Nat→List Nat→Nat
 | x,[]=>x
 | _,i::S=>nxt (i+1) S
theorem laidL_app (i:Nat) : ∀ (S:List Nat) (x:Nat),laidL x (S++[i])=laidL x S++num (i - nxt x S):=by
 intro S
 induction S with
 | nil=>intro x; simp [laidL,nxt]
 | cons a S ih=>intro x; rw [List.cons_append,laidL,ih,laidL,List.append_assoc,nxt]
theorem nxt_app (i:Nat) : ∀ (S:List Nat) (x:Nat),nxt x (S++[i])=i+1:=by
 intro S
 induction S with
 | nil=>intro x; rfl
 | cons a S ih=>intro x; rw [List.cons_append,nxt,ih]
def mid (p:PV):List UInt8:=if p.kd=1 then num (p.S.getD 0 0) else if p.kd=2 then num p.S.length++laidL 0 p.S else num p.old
def enc (p:PV):List UInt8:=UInt8.ofNat p.kd.toNat::UInt8.ofNat p.k.toNat::(num p.size++(mid p++flatC p.D))
def Well (p:PV):Prop:=cnt p.kd p.k p.old p.size p.S=some p.D.length ∧ ∀ d∈p.D,(d.size:Int)=p.k
instance (p:PV):Decidable (Well p):=by unfold Well; infer_instance
end Go.Proofs.YtoblgjledefdbaaGreatDoor
namespace Go.Proofs.YtoblgjledefdbaaGreatDoor
open Go.Shelf
open Go.RowKit
def Tryz.lays156_ren:Go.Shelf.Ren:=⟨fun | 156=>173 | 165=>269 | 166=>270 | 169=>271 | 240=>345 | 241=>346 | 276=>395 | 277=>396 | n=>n,fun | 31=>22 | 9=>9 | 3=>3 | 4=>4 | 0=>0 | 20=>20 | 72=>330 | 76=>334 | 70=>328 | 37=>127 | 75=>333 | 127=>392 | 164=>320 | 5=>5 | 80=>336 | n=>n,fun | n=>n⟩
theorem Tryz.lays156:Go.Proofs.Lays.n156 Tryz.prog Tryz.lays156_ren := {
 mixed:=by kernel_rfl
 f156:=Tryz.func173.trans (congrArg some (by kernel_rfl))
 f165:=Tryz.func269.trans (congrArg some (by kernel_rfl))
 f166:=Tryz.func270.trans (congrArg some (by kernel_rfl))
 f169:=Tryz.func271.trans (congrArg some (by kernel_rfl))
 f240:=Tryz.func345.trans (congrArg some (by kernel_rfl))
 f241:=Tryz.func346.trans (congrArg some (by kernel_rfl))
 f276:=Tryz.func395.trans (congrArg some (by kernel_rfl))
 f277:=Tryz.func396.trans (congrArg some (by kernel_rfl))
 t0:=Tryz.underlying0
 a0:=Tryz.isAgg0
 z0:=Tryz.sizeOf0
 v0:=Tryz.zeroValue0
 t3:=Tryz.underlying3
 a3:=Tryz.isAgg3
 z3:=Tryz.sizeOf3
 v3:=Tryz.zeroValue3
 t4:=Tryz.underlying4
 a4:=Tryz.isAgg4
 z4:=Tryz.sizeOf4
 v4:=Tryz.zeroValue4
 t9:=Tryz.underlying9
 a9:=Tryz.isAgg9
 z9:=Tryz.sizeOf9
 v9:=Tryz.zeroValue9
 t20:=Tryz.underlying20
 a20:=Tryz.isAgg20
 z20:=Tryz.sizeOf20
 v20:=Tryz.zeroValue20
 t31:=Tryz.underlying22
 a31:=Tryz.isAgg22
 z31:=Tryz.sizeOf22
 v31:=Tryz.zeroValue22
 t37:=Tryz.underlying127
 a37:=Tryz.isAgg127
 z37:=Tryz.sizeOf127
 v37:=Tryz.zeroValue127
 t70:=Tryz.underlying328
 a70:=Tryz.isAgg328
 z70:=Tryz.sizeOf328
 v70:=Tryz.zeroValue328
 t72:=Tryz.underlying330
 a72:=Tryz.isAgg330
 z72:=Tryz.sizeOf330
 v72:=Tryz.zeroValue330
 t75:=Tryz.underlying333
 a75:=Tryz.isAgg333
 z75:=Tryz.sizeOf333
 v75:=Tryz.zeroValue333
 t76:=Tryz.underlying334
 a76:=Tryz.isAgg334
 z76:=Tryz.sizeOf334
 v76:=Tryz.zeroValue334
 t127:=Tryz.underlying392
 a127:=Tryz.isAgg392
 z127:=Tryz.sizeOf392
 v127:=Tryz.zeroValue392
 t164:=Tryz.underlying320
 a164:=Tryz.isAgg320
 z164:=Tryz.sizeOf320
 v164:=Tryz.zeroValue320 }
theorem Tryz.Builder_Extra_156:Builder.Extra Tryz.prog Tryz.lays156_ren := {
 sizeBuilder:=by kernel_rfl
 liesBuilder:=by kernel_rfl
 t5:=Tryz.underlying5
 a5:=Tryz.isAgg5
 z5:=Tryz.sizeOf5
 v5:=Tryz.zeroValue5
 infoByte:=by kernel_rfl
 cellsByte:=by kernel_rfl
 sizeByte:=by kernel_rfl
 neB5:=by decide }
theorem Tryz.strings_Join_none (a:Option Addr) (c:Nat) (sep:ByteArray) (w:World) :
  Calls Tryz.prog 173 #[.slice a 0 c,.string sep] w fun e w'=>e = .returned (.string ⟨#[]⟩)∧w'=w:=Any.strings_Join_none Tryz.lays156 Tryz.Builder_Extra_156 a c sep w
theorem Tryz.strings_Join (bk o c:Nat) (xs:List ByteArray) (sep:ByteArray) (w:World) (hcells : ∀ (j:Nat) x,xs[j]? = some x→w.cell? ⟨bk,o+j,none⟩=some (.string x)) (hbk:bk<w.heap.size) (hN:xs.length≤140737488355328) (hcap:xs.length≤c) (hlen:(Lib.join (xs.map (·.data.toList)) sep.data.toList).length≤140737488355328) :
  Calls Tryz.prog 173 #[.slice (some ⟨bk,o,none⟩) xs.length c,.string sep] w fun e w'=>e = .returned (.string ⟨(Lib.join (xs.map (·.data.toList)) sep.data.toList).toArray⟩)∧Below w.heap.size w w':=Any.strings_Join Tryz.lays156 Tryz.Builder_Extra_156 bk o c xs sep w hcells hbk hN hcap hlen
theorem join_flat (D:List ByteArray):Lib.join (D.map (·.data.toList)) []=flatC D:=by
 cases D with
 | nil=>rfl
 | cons d D=>rw [List.map_cons,Lib.join_cons,flat_cons]; simp [Lib.joinTail,flatC]; rfl
theorem join_anyC (w:World) (da:Option Addr) (db dO dc:Nat) (D:List ByteArray) (rd:RdS w da db dO D.length D) (hc:D.length≤dc) (hD:D.length≤140737488355328) (hl:(flatC D).length≤140737488355328) :
  Calls Tryz.prog 173 #[.slice da D.length dc,.string ByteArray.empty] w fun e w'=>e = .returned (.string ⟨(flatC D).toArray⟩)∧Below w.heap.size w w':=by
 have he:ByteArray.empty.data.toList=[]:=rfl
 by_cases h0:D.length=0
 ·have:D=[]:=List.length_eq_zero_iff.1 h0
  subst this
  exact (Tryz.strings_Join_none da dc ByteArray.empty w).mono fun e w' h=>⟨h.1,by rw [h.2]; exact Below.refl _ _⟩
 ·obtain rfl:=rd.ptr (by omega)
  have h:=Tryz.strings_Join db dO dc D ByteArray.empty w (fun j x hx=>rd.rng j _ (by rw [List.getElem?_map,hx]; rfl)) (rd.lt (by omega)) hD hc (by rw [he,join_flat]; exact hl)
  rw [he,join_flat] at h
  exact h
end Go.Proofs.YtoblgjledefdbaaGreatDoor
namespace Go.Proofs.YtoblgjledefdbaaGreatDoor
open Cv (rst cov Chain dnL tno inb)
open Pl (pw)
theorem xor_odd (m:Nat):(2 * m+1) ^^^ (2 * m)=1:=by
 have h1:((2 * m+1) ^^^ (2 * m)) / 2=0:=by
  have e:((2 * m+1) ^^^ (2 * m)) >>> 1=((2 * m+1) >>> 1) ^^^ ((2 * m) >>> 1):=Nat.shiftRight_xor_distrib
  rw [Nat.shiftRight_eq_div_pow,Nat.shiftRight_eq_div_pow,Nat.shiftRight_eq_div_pow,show (2 * m+1) / 2^1=m by omega,show 2 * m / 2^1=m by omega,Nat.xor_self] at e
  simpa using e
 have h2:((2 * m+1) ^^^ (2 * m)) % 2=1:=by
  have e:((2 * m+1) ^^^ (2 * m)) % 2^1=((2 * m+1) % 2^1) ^^^ ((2 * m) % 2^1):=Nat.xor_mod_two_pow
  rw [show (2 * m+1) % 2^1=1 by omega,show 2 * m % 2^1=0 by omega] at e
  exact e
 omega
theorem xor_high {n i H q:Nat} (hq:q % 2=0) (h1:n / 2^H=q+1) (h2:i / 2^H=q):2^H≤n ^^^ i∧n ^^^ i<2^(H+1):=by
 have e:(n ^^^ i) / 2^H=1:=by
  have e:(n ^^^ i) >>> H=(n >>> H) ^^^ (i >>> H):=Nat.shiftRight_xor_distrib
  rw [Nat.shiftRight_eq_div_pow,Nat.shiftRight_eq_div_pow,Nat.shiftRight_eq_div_pow,h1,h2] at e
  obtain ⟨m,rfl⟩ : ∃ m,q=2 * m:=⟨q / 2,by omega⟩
  rw [e,xor_odd]
 have hp:0<2^H:=Nat.two_pow_pos H
 constructor
 ·have:=Nat.div_mul_le_self (n ^^^ i) (2^H)
  rw [e] at this
  omega
 ·have:=Nat.lt_mul_of_div_lt (show (n ^^^ i) / 2^H<2 by omega) hp
  rw [Nat.pow_succ]
  omega
theorem tno_in (i:Nat) : ∀ H K,K * pw H≤i→i<(K+1) * pw H→(tno H K [i]).length=H:=by
 intro H
 induction H with
 | zero =>
  intro K h1 h2
  have hb:inb 0 K i=true:=Cv.inb_iff.2 ⟨h1,h2⟩
  rw [tno,List.filter_cons_of_pos hb]
  simp
 | succ H ih =>
  intro K h1 h2
  have hb:inb (H+1) K i=true:=Cv.inb_iff.2 ⟨h1,h2⟩
  have e1:=Cv.half_lo H K
  have e2:=Cv.half_mid H K
  have e3:=Cv.half_hi H K
  have e4:=Cv.blk_len H K
  rw [tno,List.filter_cons_of_pos hb,List.filter_nil,if_neg (by simp),List.length_append]
  have out : ∀ K',¬ (K' * pw H≤i∧i<(K'+1) * pw H)→(tno H K' [i]).length=1:=fun K' h=>by
   have hb : ¬ inb H K' i=true:=fun e=>h (Cv.inb_iff.1 e)
   exact (Cv.tno_count H K' [i]).1 (by rw [List.filter_cons_of_neg hb]; rfl)
  by_cases hm:i<K * pw (H+1)+pw H
  ·rw [ih (2 * K) (by omega) (by rw [e2]; exact hm),out (2 * K+1) (by omega)]
  ·rw [out (2 * K) (by omega),ih (2 * K+1) (by omega) (by omega)]
   omega
theorem tno_out {i H K:Nat} (h : ¬ (K * pw H≤i∧i<(K+1) * pw H)):(tno H K [i]).length=1:=by
 have hb : ¬ inb H K i=true:=fun e=>h (Cv.inb_iff.1 e)
 exact (Cv.tno_count H K [i]).1 (by rw [List.filter_cons_of_neg hb]; rfl)
theorem dn_after (n i:Nat) : ∀ h lo,(∃ c,lo=c * pw h)→i<lo→((dnL h lo n).flatMap fun b=>tno b.1 b.2 [i]).length=(dnL h lo n).length:=by
 intro h
 induction h with
 | zero=>intro lo _ _; rfl
 | succ h ih =>
  intro lo hc hi
  obtain ⟨c,rfl⟩:=hc
  have e:=Cv.mul_half c h
  rw [dnL]
  split
  ·rw [List.flatMap_cons,List.length_append,List.length_cons,ih _ ⟨2 * c+1,by rw [Nat.add_mul,Nat.one_mul,e]⟩ (by omega),tno_out (by
    intro hx
    dsimp only at hx
    rw [e,Nat.mul_div_cancel _ (Pl.pw_pos h)] at hx
    omega)]
   omega
  ·exact ih _ ⟨2 * c,e⟩ hi
theorem path_sum (n i:Nat) (hin:i<n) : ∀ h lo,(∃ c,lo=c * pw h)→lo≤i→n - lo<pw h →
  ∃ H,((dnL h lo n).flatMap fun b=>tno b.1 b.2 [i]).length+1=H+(dnL h lo n).length∧2^H≤n ^^^ i∧n ^^^ i<2^(H+1)∧H<h:=by
 intro h
 induction h with
 | zero=>intro lo _ h1 h2; have:pw 0=1:=rfl; omega
 | succ h ih =>
  intro lo hc h1 h2
  obtain ⟨c,rfl⟩:=hc
  have e:=Cv.mul_half c h
  have hp:=Pl.pw_pos h
  have hs:=Pl.pw_succ h
  rw [dnL]
  split
  ·rename_i hfit
   have hq:c * pw (h+1) / pw h=2 * c:=by rw [e,Nat.mul_div_cancel _ hp]
   rw [List.flatMap_cons,List.length_append,List.length_cons,hq]
   by_cases hm:i<c * pw (h+1)+pw h
   ·refine ⟨h,?_,?_⟩
    ·rw [tno_in i h (2 * c) (by omega) (by rw [Nat.add_mul,Nat.one_mul]; omega),dn_after n i h _ ⟨2 * c+1,by rw [Nat.add_mul,Nat.one_mul,e]⟩ hm]
     omega
    ·have a1:n / 2^h=2 * c+1:=by
      have:n / pw h=2 * c+1:=by
       apply Nat.div_eq_of_lt_le
       ·rw [Nat.add_mul,Nat.one_mul]; omega
       ·rw [Nat.add_mul,Nat.add_mul,Nat.one_mul]; omega
      exact this
     have a2:i / 2^h=2 * c:=by
      have:i / pw h=2 * c:=by
       apply Nat.div_eq_of_lt_le
       ·omega
       ·rw [Nat.add_mul,Nat.one_mul]; omega
      exact this
     obtain ⟨b1,b2⟩:=xor_high (q:=2 * c) (by omega) a1 a2
     exact ⟨b1,b2,by omega⟩
   ·obtain ⟨H,g1,g2,g3,g4⟩:=ih (c * pw (h+1)+pw h) ⟨2 * c+1,by rw [Nat.add_mul,Nat.one_mul,e]⟩ (by omega) (by omega)
    refine ⟨H,?_,g2,g3,by omega⟩
    rw [tno_out (by intro hx; dsimp only at hx; rw [Nat.add_mul,Nat.one_mul,← e] at hx; omega)]
    omega
  ·rename_i hfit
   obtain ⟨H,g1,g2,g3,g4⟩:=ih (c * pw (h+1)) ⟨2 * c,e⟩ h1 (by omega)
   exact ⟨H,g1,g2,g3,by omega⟩
theorem path_cnt {n i:Nat} (hn:n≤2^40) (hin:i<n) : ∃ H,(rst 0 n [i]).length+1=H+Pl.ones 64 n∧2^H≤n ^^^ i∧n ^^^ i<2^(H+1)∧H≤40:=by
 have hp:n<pw 41:=by
  have:pw 41=2 * 2^40:=rfl
  omega
 obtain ⟨H,g1,g2,g3,g4⟩:=path_sum n i hin 41 0 ⟨0,by simp⟩ (Nat.zero_le _) (by simpa using hp)
 have hc:Chain 0 [i] n:=⟨Nat.zero_le _,hin⟩
 refine ⟨H,?_,g2,g3,by omega⟩
 rw [Cv.rest_ref n [i] hn hc,g1,← Cv.cov_zero n hn,Cv.cov_ones n hn]
end Go.Proofs.YtoblgjledefdbaaGreatDoor
namespace Go.Proofs.YtoblgjledefdbaaGreatDoor
open Go.RowKit
open Pl (isOne_any pw)
attribute [local go_sem ↓] Go.wp_at_zero Go.wp_at_succ
theorem mod_step (n k:Nat):n % 2^(k+1)=n % 2^k+2^k * (n / 2^k % 2):=by rw [Nat.pow_succ,Nat.mod_mul]
theorem log_any (n:Nat) (w:World) (hn:n<2^64) :
  Calls Tryz.prog 408 #[.int .u64 (n:Int)] w fun e w' => ∃ c:Nat,e = .returned (.int .i64 ((c:Int) - 1))∧n<2^c∧c≤64∧(0<c→2^(c - 1)≤n)∧w=w':=by
 go_enter Tryz.func408,Tryz.ntmps408
 go_wp2
 go_loopg [3,4,5] 64 (fun g r i4 i wr => ∃ k c:Nat,k≤64∧g=64 - k∧i = .int .i64 (k:Int)∧r = .int .i64 ((c:Int) - 1)∧c≤k∧n % 2^k<2^c∧(0<c→2^(c - 1)≤n % 2^k)∧w=wr)
 case atStart =>
  go_light
  exact ⟨0,0,Nat.zero_le _,rfl,rfl,rfl,Nat.zero_le _,by simp [Nat.mod_one],fun h=>absurd h (Nat.lt_irrefl 0),rfl⟩
 case round =>
  obtain ⟨k,c,hk,rfl,rfl,rfl,hc,hs,hs2,rfl⟩:=hrel
  have hk0:(0:Int)≤(k:Int):=Int.natCast_nonneg _
  by_cases hlt:k<64
  ·have hk8:(k:Int)<64:=by omega
   have HM:=mod_step n k
   have HC:=isOne_any n k w hn hlt
   have hlt2:n % 2^k<2^k:=Nat.mod_lt _ (Nat.two_pow_pos k)
   by_cases hb:n / 2^k % 2=1
   ·rw [decide_eq_true hb] at HC
    rw [hb,Nat.mul_one] at HM
    have HX:Hid (n % 2^(k+1)<2^(k+1)∧2^k≤n % 2^(k+1)):=⟨Nat.mod_lt _ (Nat.two_pow_pos _),by omega⟩
    clear hs hs2 hc HM hlt2
    go_wp2_with (go_at_call 224; refine HC.mono ?_; rintro e w' ⟨rfl,rfl⟩)
    go_roundg (64 - (k+1))
    case rel =>
     go_light
     exact ⟨k+1,k+1,by omega,rfl,by go_num,by congr 1; omega,Nat.le_refl _,HX.out.1,fun _=>HX.out.2,rfl⟩
    case measure=>go_light; omega
   ·rw [decide_eq_false hb] at HC
    have hb0:n / 2^k % 2=0:=by omega
    rw [hb0,Nat.mul_zero,Nat.add_zero] at HM
    have HX:Hid (n % 2^(k+1)<2^c∧c≤k+1∧(0<c→2^(c - 1)≤n % 2^(k+1))):=⟨by rw [HM]; exact hs,by omega,by rw [HM]; exact hs2⟩
    clear hs hs2 hc HM hlt2
    go_wp2_with (go_at_call 224; refine HC.mono ?_; rintro e w' ⟨rfl,rfl⟩)
    go_roundg (64 - (k+1))
    case rel =>
     go_light
     exact ⟨k+1,c,by omega,rfl,by go_num,rfl,HX.out.2.1,HX.out.1,HX.out.2.2,rfl⟩
    case measure=>go_light; omega
  ·obtain rfl:k=64:=by omega
   have HX:Hid (n<2^c∧c≤64∧(0<c→2^(c - 1)≤n)):=by
    rw [Nat.mod_eq_of_lt hn] at hs hs2
    exact ⟨hs,hc,hs2⟩
   clear hs hs2 hc hlt
   go_wp2
   go_ret
   exact ⟨c,rfl,HX.out.1,HX.out.2.1,HX.out.2.2,rfl⟩
theorem log_at (n H:Nat) (w:World) (hn:n<2^64) (h1:2^H≤n) (h2:n<2^(H+1)) :
  Calls Tryz.prog 408 #[.int .u64 (n:Int)] w fun e w'=>e = .returned (.int .i64 (H:Int))∧w'=w:=by
 refine (log_any n w hn).mono ?_
 rintro e w' ⟨c,rfl,g1,g2,g3,rfl⟩
 have hc:c=H+1:=by
  have a1:H<c:=by
   apply Classical.byContradiction
   intro h
   have:=Nat.pow_le_pow_right (n:=2) (by decide) (show c≤H by omega)
   omega
  have a2:c - 1<H+1:=by
   apply Classical.byContradiction
   intro h
   have:=Nat.pow_le_pow_right (n:=2) (by decide) (show H+1≤c - 1 by omega)
   have:=g3 (by omega)
   omega
  omega
 subst hc
 exact ⟨by congr 2; omega,rfl⟩
end Go.Proofs.YtoblgjledefdbaaGreatDoor
namespace Go.Proofs.YtoblgjledefdbaaGreatDoor
open Go.RowKit
attribute [local go_sem ↓] Go.wp_at_zero Go.wp_at_succ
theorem ba_ext {a b:ByteArray} (h:a.data.toList=b.data.toList):a=b:=by
 obtain ⟨⟨l⟩⟩:=a
 obtain ⟨⟨m⟩⟩:=b
 simp only at h
 rw [h]
end Go.Proofs.YtoblgjledefdbaaGreatDoor
