/- Own work. -/
import Derived.Test.YtoblgjledefdbaaGreatDoorProg
import Derived.WalkKit
import Derived.WalkSpells
import Derived.Outline
import Derived.KernelRfl
import Derived.Maps.Keyed
import Derived.Maps.OwnSet
import Derived.Maps.RangeWalk
import Derived.Sort.KeysCollected
import Derived.Deep.Draws
import Derived.StringKeys
import Derived.Test.YtoblgjledefdbaaGreatDoorQf07
namespace Go.Proofs.YtoblgjledefdbaaGreatDoor.St.Rc
open Go.RowKit
attribute [local go_sem ↓] Go.wp_at_zero Go.wp_at_succ
def chn (c:BitVec 32) (s:List UInt8) (ss:List ByteArray):Nat:=crc (big 4 c.toNat++s++flat ss)
set_option maxRecDepth 100000 in
set_option maxHeartbeats 1000000 in
theorem chain_any (w:World) (c:BitVec 32) (s:ByteArray) (hs:s.size≤9223372036854775807) (ao:Option Addr) (b off len cap:Nat) (ss:List ByteArray) (hr:RdS w ao b off len ss) (hmx:len≤9223372036854775807) (r:Nat) (hR:chn c s.data.toList ss=r) :
  Calls Tryz.prog 267 #[.int .u32 (c.toNat:Int),.string s,.slice ao len cap] w fun e w'=>e = .returned (.int .u32 (r:Int))∧Below w.heap.size w w':=by
 obtain ⟨w0,hw0⟩ : ∃ w0,w.alloc (.cells (Array.replicate 4 (Value.int .u8 0)) 5)=w0:=⟨_,rfl⟩
 have hmk:(Instr.makeSlice 127 (.int .i64 4) (.int .i64 4)).run Tryz.prog w = .ok (.slice (some ⟨w.heap.size,0,none⟩) 4 4) w0:=by
  rw [← hw0]; exact make_bytes 4 (by decide) w
 have HW:Hid (Byt w0 w.heap.size (zer 4)∧Below w.heap.size w w0):=by
  rw [← hw0]
  exact ⟨byt_made w _,bal (Below.refl _ _) _⟩
 obtain ⟨d,hd⟩ : ∃ d,c.toNat=d:=⟨_,rfl⟩
 have hd4:d<4294967296:=by rw [← hd]; exact c.isLt
 have hw2:IntKind.u64.wrap (d:Int)=(d:Int):=by rw [IntKind.wrap_u64]; omega
 obtain ⟨u,hu⟩ : ∃ u:ByteArray,(⟨(big 4 d).toArray⟩:ByteArray)=u:=⟨_,rfl⟩
 have hul:u.data.toList=big 4 d:=by rw [← hu]
 have HPU:Hid (Calls Tryz.prog 264 #[.slice (some ⟨w.heap.size,0,none⟩) 4 4,.int .u64 (d:Int)] w0 fun e w'=>e = .returned (.tuple #[])∧(convert 127 9 (.slice (some ⟨w.heap.size,0,none⟩) 4 4)).run Tryz.prog w' = .ok (.string u) w'∧Below w.heap.size w w'):=by
  refine (put_any w0 w.heap.size 0 4 4 d (zer 4) HW.out.1 (by rw [zer_len]; decide) (by decide) (by omega)).mono ?_
  rintro e w' ⟨rfl,hy,hup⟩
  rw [show zer 4=[]++zer 4 from rfl,ovr_zer [] _ _ 0 rfl,big_len,List.nil_append,show zer (4 - 4)=[] from rfl,List.append_nil] at hy
  refine ⟨rfl,hy.conv (k:=0) (n:=4) (by rw [big_len]; decide) 0 (fun _=>rfl) 4 u (by rw [List.drop_zero,List.take_of_length_le (by rw [big_len]; decide)]; exact hu),hup.since HW.out.2 (Nat.le_refl _)⟩
 obtain ⟨x,hx⟩ : ∃ x,crc (big 4 d++s.data.toList)=x:=⟨_,rfl⟩
 have HF:Hid (∀ W,Calls Tryz.prog 341 #[.slice (some ⟨W.heap.size,0,none⟩) 2 2] (W.alloc (.cells #[.string u,.string s] 9)) fun e w'=>e = .returned (.int .u32 (x:Int))∧Below W.heap.size W w'):=fun W=>by
  refine (of_any _ _ W.heap.size 0 2 2 [u,s] ⟨rfl,fun _=>rfl,range_new W [.string u,.string s] 9,by intro z hz; simp at hz; rcases hz with rfl | rfl; rw [← size_list,hul,big_len]; decide; exact hs⟩ (by decide)).mono ?_
  rintro e w' ⟨rfl,hb⟩
  refine ⟨?_,((Below.refl _ _).alloc (Nat.le_refl _) _).trans (hb.mono (by simp))⟩
  rw [← hx,crc,sumL,← hul]
  simp [flat]
 have HR:Hid (chn c s.data.toList ss=r∧crc (big 4 d++s.data.toList)=x∧c.toNat=d):=⟨hR,hx,hd⟩
 rw [hd]
 clear hw0 hu hul hx hR hd
 go_enter Tryz.func267,Tryz.ntmps267
 go_wp2_with (first
  | (go_at_call 264; with_reducible refine HPU.out.mono ?_; rintro e w2 ⟨rfl,kc,hb2⟩)
  | (go_at_call 341; with_reducible refine (HF.out _).mono ?_; rintro e w3 ⟨rfl,hb3⟩))
 have HB3:Hid (Below w.heap.size w w3):=bnext hb2 hb3
 clear kc hb2 hb3 HPU HF
 go_loopg [8,23] len (fun G y i wr => ∃ (k z:Nat),k≤len∧G=len - k∧y = .int .u32 (z:Int)∧i = .int .i64 (k:Int)∧Hid (z=(mor (mor 0#32 (big 4 d++s.data.toList)) (flat (ss.take k))).toNat)∧Hid (Below w.heap.size w wr))
 case atStart =>
  go_light
  exact ⟨0,x,by omega,rfl,rfl,rfl,by show _=_; rw [List.take_zero,show flat []=[] from rfl,mor_nil,← HR.out.2.1]; rfl,HB3⟩
 case round =>
  obtain ⟨k,z,hk,rfl,rfl,rfl,HM,HB⟩:=hrel
  by_cases hlt:k<len
  ·have hz:(k:Int)<(len:Int):=by omega
   have k0:(0:Int)≤(k:Int):=by omega
   obtain rfl:=hr.ptr (by omega)
   have hr':=hr.next HB.out (Nat.le_refl _)
   have ck:=hr'.at hlt
   have hcall:=more_m wr _ z HM.out (ss.getD k ByteArray.empty) (hr.szAt hlt)
   rw [← mor_append,← flat_snoc ss k (by rw [hr.hl]; exact hlt)] at hcall
   obtain ⟨y,hy⟩ : ∃ y,y=(mor (mor 0#32 (big 4 d++s.data.toList)) (flat (ss.take (k+1)))).toNat:=⟨_,rfl⟩
   rw [← hy] at hcall
   have HY:Hid (y=(mor (mor 0#32 (big 4 d++s.data.toList)) (flat (ss.take (k+1)))).toNat):=hy
   clear hy HM hr'
   generalize ss.getD k ByteArray.empty=part at *
   go_wp2_with (go_at_call 342; refine hcall.mono ?_; rintro e w' ⟨rfl,hb'⟩)
   go_roundg (len - (k+1))
   case rel =>
    go_light
    exact ⟨k+1,y,by omega,rfl,rfl,by go_num,HY,bnext HB.out hb'⟩
   case measure=>go_light; omega
  ·obtain rfl:k=len:=by omega
   have hz : ¬ (k:Int)<(k:Int):=by omega
   have HE:Hid (z=r):=by
    show _=_
    rw [HM.out,← HR.out.1,chn,crc,HR.out.2.2,List.take_of_length_le (by rw [hr.hl]; exact Nat.le_refl _),mor_append _ (big 4 d++s.data.toList)]
   clear HM
   go_wp2
   go_ret
   exact ⟨by rw [HE.out]; rfl,HB.out⟩
end Go.Proofs.YtoblgjledefdbaaGreatDoor.St.Rc
namespace Go.Proofs.YtoblgjledefdbaaGreatDoor.St
open Go.RowKit
theorem bnext {w W w2:World} (h:Below w.heap.size w W) (h2:Below W.heap.size W w2):Below w.heap.size w w2:=h.trans (h2.mono h.size)
theorem bal {w W:World} (h:Below w.heap.size w W) (o:Obj):Below w.heap.size w (W.alloc o):=h.alloc h.size o
theorem below_drewN {B:Nat} {a w:World} (h:Below B a w) (n:Nat):Below B a (w.drewN n):=⟨h.os,h.tape,h.output,h.size,h.block⟩
structure Upo (S:Nat→Prop) (w w':World):Prop where
 os:w'.os=w.os
 tape:w'.tape=w.tape
 output:w'.output=w.output
 size:w.heap.size≤w'.heap.size
 block : ∀ b,b<w.heap.size → ¬ S b→w'.heap[b]? = w.heap[b]?
section
variable {S T:Nat→Prop} {w w' w1 w2:World}
theorem Upo.refl (S:Nat→Prop) (w:World):Upo S w w:=⟨rfl,rfl,rfl,Nat.le_refl _,fun _ _ _=>rfl⟩
theorem Upo.of (h:Below w.heap.size w w'):Upo S w w':=⟨h.os,h.tape,h.output,h.size,fun b hb _=>h.block b hb⟩
theorem Upo.trans (h:Upo S w w1) (h2:Upo T w1 w2) (hT : ∀ b,b<w.heap.size→T b→S b):Upo S w w2 :=
 ⟨h2.os.trans h.os,h2.tape.trans h.tape,h2.output.trans h.output,Nat.le_trans h.size h2.size,fun b hb hs=>(h2.block b (Nat.lt_of_lt_of_le hb h.size) fun ht=>hs (hT b hb ht)).trans (h.block b hb hs)⟩
theorem Upo.mono (h:Upo S w w1) (hT : ∀ b,b<w.heap.size→S b→T b):Upo T w w1:=⟨h.os,h.tape,h.output,h.size,fun b hb hs=>h.block b hb fun q=>hs (hT b hb q)⟩
theorem Upo.next (h:Upo S w w1) (h2:Below w1.heap.size w1 w2):Upo S w w2:=h.trans (Upo.of (S:=S) h2) fun _ _ q=>q
theorem Upo.below (h:Upo S w w') {B:Nat} (hB:B≤w.heap.size) (hS : ∀ b,S b→B≤b):Below B w w' :=
 ⟨h.os,h.tape,h.output,h.size,fun b hb=>h.block b (by omega) fun hs=>by have:=hS b hs; omega⟩
theorem Upo.grown {o:Option Nat} (h:w.grownBy w' o) (hS : ∀ b,o=some b→S b):Upo S w w' :=
 ⟨h.os,h.tape,h.output,h.size,fun b hb hs=>h.block b hb fun e=>hs (hS b e.symm)⟩
theorem Upo.set (h:Upo S w w') (b i:Nat) (v:Value) (hb:S b∨w.heap.size≤b):Upo S w (w'.setCell ⟨b,i,none⟩ v):=by
 refine ⟨h.os,h.tape,h.output,by simpa using h.size,fun c hc hs => ?_⟩
 rw [← h.block c hc hs]
 exact Below.heap_setCell _ _ _ _ (by show c≠b; rintro rfl; rcases hb with hb | hb; exact hs hb; omega)
theorem Upo.alloc (h:Upo S w w') (o:Obj):Upo S w (w'.alloc o):=h.next (bal (Below.refl _ _) o)
theorem Upo.drew (h:Upo S w w'):Upo S w w'.drew:=⟨h.os,h.tape,h.output,h.size,h.block⟩
end
theorem new1 (w:World) (o:Obj):(w.alloc o).heap[w.heap.size]? = some o:=(MapKept.heap_alloc w o).1
theorem new0 (w:World) (o p:Obj):((w.alloc o).alloc p).heap[w.heap.size]? = some o:=((MapKept.heap_alloc (w.alloc o) p).2 _ (by simp)).trans (new1 w o)
theorem new2 (w:World) (o p:Obj):((w.alloc o).alloc p).heap[w.heap.size+1]? = some p:=by
 have:=new1 (w.alloc o) p
 simpa using this
theorem set3_at {W:World} {q:Nat} {x0 x1 x2:Value} {T:TypeId} (h:W.heap[q]? = some (.cells #[x0,x1,x2] T (0,0))) (a b c:Value) :
  (((W.setCell ⟨q,0,none⟩ a).setCell ⟨q,1,none⟩ b).setCell ⟨q,2,none⟩ c).heap[q]? = some (.cells #[a,b,c] T (0,0)):=by
 have h1:(W.setCell ⟨q,0,none⟩ a).heap[q]? = some (.cells #[a,x1,x2] T (0,0)):=heap_setCell_same W q 0 _ _ a h
 have h2:((W.setCell ⟨q,0,none⟩ a).setCell ⟨q,1,none⟩ b).heap[q]? = some (.cells #[a,b,x2] T (0,0)):=heap_setCell_same _ q 1 _ _ b h1
 exact heap_setCell_same _ q 2 _ _ c h2
theorem three_at {W:World} {q:Nat} {a b c:Value} {T:TypeId} (h:W.heap[q]? = some (.cells #[a,b,c] T (0,0))):W.cell? ⟨q,0,none⟩=some a∧W.cell? ⟨q,1,none⟩=some b∧W.cell? ⟨q,2,none⟩=some c :=
 ⟨by rw [cell_of_row W q 0 _ _ (0,0) h]; rfl,by rw [cell_of_row W q 1 _ _ (0,0) h]; rfl,by rw [cell_of_row W q 2 _ _ (0,0) h]; rfl⟩
def hv (v:Value):Option (DataW Value×List MemPlace):=some (.held v,[])
theorem Tryz.keyS:Maps.Keyed Tryz.prog 9:=Maps.string_keyed Tryz.underlying9
theorem keyS {s:ByteArray} (hs:s.size≤maxLen):keyOf Tryz.prog 9 (.string s)=some (.string s.data.toList):=WideMaps.keyOf_string_mk Tryz.underlying9 hs
def Mv (w:World) (m:Nat) (F:List UInt8→Option Value):Prop :=
 ∃ D:DataW Value,w.ownsMap Tryz.prog 9 hv m (Maps.size D) D ∧ ∀ s,(F s=none→Maps.has D (.string s)=false) ∧ ∀ v,F s=some v → ∀ z,D.atKey (.string s) z = .held v
section
variable {w W:World} {m:Nat} {F G:List UInt8→Option Value}
theorem Mv.lt (h:Mv w m F):m<w.heap.size:=by
 obtain ⟨D,h1,_⟩:=h
 exact h1.lt
theorem Mv.same (h:Mv w m F) (hb:W.heap[m]? = w.heap[m]?):Mv W m F:=by
 obtain ⟨D,⟨es,c,h1,h2⟩,h3⟩:=h
 exact ⟨D,⟨es,c,hb.trans h1,h2⟩,h3⟩
theorem mv_new (w:World):Mv (w.alloc (.map #[] 0)) w.heap.size (fun _=>none) :=
 ⟨.map [],World.ownsMap_made _ _ _ _,fun s=>⟨fun _=>rfl,fun v h=>by cases h⟩⟩
theorem Mv.has (h:Mv w m F) : ∃ D:DataW Value,w.ownsMap Tryz.prog 9 hv m (Maps.size D) D∧(∀ s,Maps.has D (.string s)=(F s).isSome) ∧ ∀ s v,F s=some v → ∀ z,D.atKey (.string s) z = .held v:=by
 obtain ⟨D,h1,h2⟩:=h
 refine ⟨D,h1,fun s => ?_,fun s=>(h2 s).2⟩
 cases e:F s with
 | none=>exact (h2 s).1 e
 | some v=>exact Maps.has_true_of_atKey ((h2 s).2 v e)
theorem mv_of {D:DataW Value} {n:Nat} (h:w.ownsMap Tryz.prog 9 hv m n D) (h2 : ∀ s,(F s=none→Maps.has D (.string s)=false) ∧ ∀ v,F s=some v → ∀ z,D.atKey (.string s) z = .held v):Mv w m F:=by
 obtain ⟨es,c,g1,g2,g3,rfl⟩:=h
 refine ⟨_,⟨es,c,g1,g2,?_,rfl⟩,h2⟩
 simp only [Maps.size,length_read]
 exact Nat.le_refl _
theorem Mv.look (h:Mv w m F) {t e:TypeId} (ht:Tryz.prog.underlying t=some (.map 9 e)) {z:Value} (hz:(zeroValue e).run Tryz.prog w = .ok z w) {s:ByteArray} (hs:s.size≤maxLen) :
  (Instr.lookup t (.map (some m)) (.string s) false).run Tryz.prog w = .ok ((F s.data.toList).getD z) w:=by
 obtain ⟨D,h1,h2⟩:=h
 obtain ⟨v,ps,hr,hv'⟩:=h1.lookup Tryz.keyS ht hz (zd := .held z) (zp:=[]) rfl (keyS hs)
 rw [hr]
 simp only [hv,Option.some.injEq,Prod.mk.injEq] at hv'
 cases e1:F s.data.toList with
 | none =>
  rw [Maps.atKey_of_not_has ((h2 _).1 e1)] at hv'
  have e2:v=z:=by injection hv'.1
  rw [e2,Option.getD_none]
 | some u =>
  rw [(h2 _).2 u e1] at hv'
  have e2:v=u:=by injection hv'.1
  rw [e2,Option.getD_some]
theorem Mv.look_ok (h:Mv w m F) {t e:TypeId} (ht:Tryz.prog.underlying t=some (.map 9 e)) {z:Value} (hz:(zeroValue e).run Tryz.prog w = .ok z w) {s:ByteArray} (hs:s.size≤maxLen) :
  (Instr.lookup t (.map (some m)) (.string s) true).run Tryz.prog w = .ok (.tuple #[(F s.data.toList).getD z,.bool (F s.data.toList).isSome]) w:=by
 obtain ⟨D,h1,h3,h2⟩:=h.has
 obtain ⟨v,ps,hr,hv'⟩:=h1.look_ok Tryz.keyS ht hz (zd := .held z) (zp:=[]) rfl (keyS hs)
 rw [hr,h3]
 simp only [hv,Option.some.injEq,Prod.mk.injEq] at hv'
 cases e1:F s.data.toList with
 | none =>
  have e2:=h3 s.data.toList
  rw [e1] at e2
  rw [Maps.atKey_of_not_has e2] at hv'
  have e2:v=z:=by injection hv'.1
  rw [e2,Option.getD_none,Option.isSome_none]
 | some u =>
  rw [h2 _ u e1] at hv'
  have e2:v=u:=by injection hv'.1
  rw [e2,Option.getD_some]
def updF (F:List UInt8→Option Value) (s:List UInt8) (o:Option Value):List UInt8→Option Value:=fun t=>if t=s then o else F t
theorem Mv.perm (h:Mv w m F) {N:List (List UInt8)} (hn:N.Nodup) (hN : ∀ s,s∈N↔(F s).isSome=true) : ∃ D:DataW Value,w.ownsMap Tryz.prog 9 hv m N.length D∧Maps.size D=N.length∧N.Perm (strKeys D):=by
 obtain ⟨D,h1,h3,h2⟩:=h.has
 obtain ⟨es,rfl,hpw,_⟩:=h1.entries Tryz.keyS
 obtain ⟨es',hD',hko⟩:=h1.keysOf
 obtain rfl:es=es':=by simpa using hD'
 have hp:=perm_strKeys hpw (fun p hp=>by obtain ⟨v,hv⟩:=hko p hp; obtain ⟨x,_,hx,_⟩:=Maps.keyOf_str Tryz.underlying9 hv; exact ⟨x,hx⟩) hn (fun x=>by rw [hN,h3])
 have hl:N.length=Maps.size (.map es:DataW Value):=by rw [hp.length_eq]; simp [strKeys,Maps.size]
 exact ⟨_,by rw [hl]; exact h1,hl.symm,hp⟩
theorem Mv.write (h:Mv w m F) {t e:TypeId} (ht:Tryz.prog.underlying t=some (.map 9 e)) {N:List (List UInt8)} (hn:N.Nodup) (hN : ∀ s,s∈N↔(F s).isSome=true) (hl:N.length<maxLen) {s:ByteArray} (hs:s.size≤maxLen) (v:Value) :
  ∃ w',(Instr.mapUpdate t (.map (some m)) (.string s) v).run Tryz.prog w = .ok () w'∧Mv w' m (updF F s.data.toList (some v))∧w.grownBy w' (some m):=by
 obtain ⟨D0,_,e0,hp⟩:=h.perm hn hN
 obtain ⟨D,h1,h3,h2⟩:=h.has
 have hz:Maps.size D<maxLen:=by
  obtain ⟨es,hD,hpw,_⟩:=h1.entries Tryz.keyS
  obtain ⟨es',hD',hko⟩:=h1.keysOf
  obtain rfl:es=es':=by rw [hD] at hD'; simpa using hD'
  subst hD
  have hp:=perm_strKeys hpw (fun p hp=>by obtain ⟨v,hv⟩:=hko p hp; obtain ⟨x,_,hx,_⟩:=Maps.keyOf_str Tryz.underlying9 hv; exact ⟨x,hx⟩) hn (fun x=>by rw [hN,h3])
  have:Maps.size (.map es:DataW Value)=N.length:=by rw [hp.length_eq]; simp [strKeys,Maps.size]
  omega
 obtain ⟨w',hr,g1,g2⟩:=h1.update (val:=v) (d := .held v) (ps:=[]) Tryz.keyS ht hz (keyS hs) rfl
 refine ⟨w',hr,mv_of g1 fun u => ?_,g2⟩
 by_cases e:u=s.data.toList
 ·subst e
  refine ⟨fun q=>by simp [updF] at q,fun x hx z => ?_⟩
  simp [updF] at hx
  subst hx
  exact Maps.atKey_put_same h1.isMap (by trivial) _ _
 ·have e':(Lit.string u) ≠ .string s.data.toList:=fun q=>e (by injection q)
  refine ⟨fun q => ?_,fun x hx z => ?_⟩
  ·rw [Maps.has_put_other e',h3]
   simp only [updF,if_neg e] at q
   rw [q]; rfl
  ·rw [Maps.atKey_put_other e']
   simp only [updF,if_neg e] at hx
   exact h2 u x hx z
theorem Mv.drop (h:Mv w m F) {t e:TypeId} (ht:Tryz.prog.underlying t=some (.map 9 e)) {s:ByteArray} (hs:s.size≤maxLen) (ty:TypeId) :
  ∃ w',(Builtin.delete_ #[t,9] ty #[.map (some m),.string s]).run Tryz.prog w = .ok (.tuple #[]) w'∧Mv w' m (updF F s.data.toList none)∧w.grownBy w' (some m):=by
 obtain ⟨D,h1,h3,h2⟩:=h.has
 obtain ⟨w',hr,g1,g2⟩:=h1.drop Tryz.keyS ht (keyS hs) ty
 refine ⟨w',hr,mv_of g1 fun u => ?_,g2.grown⟩
 by_cases e:u=s.data.toList
 ·subst e
  refine ⟨fun _=>Maps.has_del_same,fun x hx z => ?_⟩
  simp [updF] at hx
 ·have e':(Lit.string u) ≠ .string s.data.toList:=fun q=>e (by injection q)
  refine ⟨fun q => ?_,fun x hx z => ?_⟩
  ·rw [Maps.has_del_other e',h3]
   simp only [updF,if_neg e] at q
   rw [q]; rfl
  ·rw [Maps.atKey_del_other e']
   simp only [updF,if_neg e] at hx
   exact h2 u x hx z
end
end Go.Proofs.YtoblgjledefdbaaGreatDoor.St
namespace Go.Proofs.YtoblgjledefdbaaGreatDoor.St
structure FV where
 now:List UInt8
 syn:List UInt8
def fz:FV:=⟨[],[]⟩
instance:Inhabited FV:=⟨fz⟩
def FV.gone (f:FV):Bool:=f.now.isEmpty && f.syn.isEmpty
theorem gone_iff {f:FV} : f.gone=true↔f=fz:=by
 obtain ⟨a,b⟩:=f
 simp [FV.gone,fz,List.isEmpty_iff]
theorem gone_len {f:FV} : f.gone=true↔f.now.length=0∧f.syn.length=0:=by
 obtain ⟨a,b⟩:=f
 simp [FV.gone,List.isEmpty_iff]
def fget:List (List UInt8×FV)→List UInt8→FV
 | [],_=>fz
 | (t,f)::r,s=>if t=s then f else fget r s
def fput:List (List UInt8×FV)→List UInt8→FV→List (List UInt8×FV)
 | [],s,f=>if f.gone then [] else [(s,f)]
 | (t,g)::r,s,f=>if t=s then (if f.gone then r else (s,f)::r) else if s<t then (if f.gone then (t,g)::r else (s,f)::(t,g)::r) else (t,g)::fput r s f
def Ord (L:List (List UInt8×FV)):Prop:=L.Pairwise (fun a b=>a.1<b.1) ∧ ∀ p∈L,p.2.gone=false
theorem ord_nil:Ord []:=⟨.nil,by simp⟩
theorem lt_of {s t:List UInt8} (h1 : ¬ t=s) (h2 : ¬ s<t):t<s:=by
 rcases Decidable.em (t<s) with h | h
 ·exact h
 ·exact absurd (List.le_antisymm (List.not_lt.1 h2) (List.not_lt.1 h)) h1
theorem fget_none {L:List (List UInt8×FV)} {s:List UInt8} (h:s ∉ L.map (·.1)):fget L s=fz:=by
 induction L with
 | nil=>rfl
 | cons p r ih =>
  obtain ⟨t,g⟩:=p
  simp only [List.map_cons,List.mem_cons,not_or] at h
  rw [fget,if_neg (fun e=>h.1 e.symm)]
  exact ih h.2
theorem fget_mem {L:List (List UInt8×FV)} (ho:Ord L) {s:List UInt8} {f:FV} (h:(s,f)∈L):fget L s=f:=by
 induction L with
 | nil=>simp at h
 | cons p r ih =>
  obtain ⟨t,g⟩:=p
  obtain ⟨h1,h2⟩:=ho
  obtain ⟨h3,h4⟩:=List.pairwise_cons.1 h1
  rw [fget]
  rcases List.mem_cons.1 h with e | e
  ·injection e with e1 e2
   rw [if_pos e1.symm,e2]
  ·have:=h3 _ e
   rw [if_neg (fun q=>by simp only [q] at this; exact absurd this (List.lt_irrefl _))]
   exact ih ⟨h4,fun p hp=>h2 p (List.mem_cons_of_mem _ hp)⟩ e
theorem fget_in {L:List (List UInt8×FV)} {s:List UInt8} (h:s∈L.map (·.1)):(s,fget L s)∈L:=by
 induction L with
 | nil=>simp at h
 | cons p r ih =>
  obtain ⟨t,g⟩:=p
  rw [fget]
  by_cases e:t=s
  ·rw [if_pos e,e]; simp
  ·rw [if_neg e]
   simp only [List.map_cons,List.mem_cons] at h
   rcases h with h | h
   ·exact absurd h.symm e
   ·exact List.mem_cons_of_mem _ (ih h)
theorem fget_gone {L:List (List UInt8×FV)} (ho:Ord L) {s:List UInt8} : (fget L s).gone=true↔s ∉ L.map (·.1):=by
 constructor
 ·intro h hs
  have:=ho.2 _ (fget_in hs)
  rw [h] at this; cases this
 ·intro h
  rw [fget_none h]; rfl
theorem fput_mem {L:List (List UInt8×FV)} {s:List UInt8} {f:FV} {p:List UInt8×FV} (h:p∈fput L s f):p∈L∨(p=(s,f)∧f.gone=false):=by
 induction L with
 | nil =>
  rw [fput] at h
  split at h
  ·simp at h
  ·rename_i hg
   exact .inr ⟨by simpa using h,by simpa using hg⟩
 | cons q r ih =>
  obtain ⟨t,g⟩:=q
  rw [fput] at h
  split at h
  ·split at h
   ·exact .inl (List.mem_cons_of_mem _ h)
   ·rename_i hg
    rcases List.mem_cons.1 h with h | h
    ·exact .inr ⟨h,by simpa using hg⟩
    ·exact .inl (List.mem_cons_of_mem _ h)
  ·split at h
   ·split at h
    ·exact .inl h
    ·rename_i hg
     rcases List.mem_cons.1 h with h | h
     ·exact .inr ⟨h,by simpa using hg⟩
     ·exact .inl h
   ·rcases List.mem_cons.1 h with h | h
    ·exact .inl (by rw [h]; simp)
    ·rcases ih h with h | h
     ·exact .inl (List.mem_cons_of_mem _ h)
     ·exact .inr h
theorem ord_fput {L:List (List UInt8×FV)} (ho:Ord L) (s:List UInt8) (f:FV):Ord (fput L s f):=by
 refine ⟨?_,fun p hp => ?_⟩
 ·induction L with
  | nil=>rw [fput]; split <;> simp
  | cons q r ih =>
   obtain ⟨t,g⟩:=q
   obtain ⟨h1,h2⟩:=ho
   obtain ⟨h3,h4⟩:=List.pairwise_cons.1 h1
   have hr:Ord r:=⟨h4,fun p hp=>h2 p (List.mem_cons_of_mem _ hp)⟩
   rw [fput]
   split
   ·rename_i e
    split
    ·exact h4
    ·exact List.pairwise_cons.2 ⟨fun p hp=>by have:=h3 p hp; rw [e] at this; exact this,h4⟩
   ·rename_i e
    split
    ·rename_i hlt
     split
     ·exact h1
     ·exact List.pairwise_cons.2 ⟨fun p hp=>by
       rcases List.mem_cons.1 hp with rfl | hp
       ·exact hlt
       ·exact List.lt_trans hlt (h3 p hp),h1⟩
    ·rename_i hlt
     refine List.pairwise_cons.2 ⟨fun p hp => ?_,ih hr⟩
     rcases fput_mem hp with hp | ⟨rfl,_⟩
     ·exact h3 p hp
     ·exact lt_of e hlt
 ·rcases fput_mem hp with hp | ⟨rfl,hg⟩
  ·exact ho.2 p hp
  ·exact hg
theorem fget_fput {L:List (List UInt8×FV)} (ho:Ord L) (s:List UInt8) (f:FV) (t:List UInt8):fget (fput L s f) t=if t=s then f else fget L t:=by
 induction L with
 | nil =>
  rw [fput]
  split
  ·rename_i hg
   rw [gone_iff.1 hg]
   simp [fget]
  ·simp only [fget]
   by_cases e:t=s
   ·rw [if_pos e,if_pos e.symm]
   ·rw [if_neg e,if_neg (fun q=>e q.symm)]
 | cons q r ih =>
  obtain ⟨u,g⟩:=q
  obtain ⟨h1,h2⟩:=ho
  obtain ⟨h3,h4⟩:=List.pairwise_cons.1 h1
  have hr:Ord r:=⟨h4,fun p hp=>h2 p (List.mem_cons_of_mem _ hp)⟩
  have low : ∀ {x:List UInt8},¬ u<x→x ∉ r.map (·.1):=fun {x} hx hm=>by
   obtain ⟨p,hp,rfl⟩:=List.mem_map.1 hm
   exact hx (h3 p hp)
  rw [fput]
  split
  ·rename_i e
   subst e
   split
   ·rename_i hg
    rw [gone_iff.1 hg]
    by_cases e:t=u
    ·rw [if_pos e,fget_none (by rw [e]; exact low (List.lt_irrefl _))]
    ·rw [if_neg e,fget,if_neg (fun q=>e q.symm)]
   ·simp only [fget]
    by_cases e:t=u
    ·rw [if_pos e,if_pos e.symm]
    ·rw [if_neg e,if_neg (fun q=>e q.symm)]; simp only [if_neg (fun q:u=t=>e q.symm)]
  ·rename_i e
   split
   ·rename_i hlt
    have hno:s ∉ ((u,g)::r).map (·.1):=by
     simp only [List.map_cons,List.mem_cons,not_or]
     exact ⟨fun q=>e q.symm,low (fun h=>absurd (List.lt_trans hlt h) (List.lt_irrefl _))⟩
    split
    ·rename_i hg
     rw [gone_iff.1 hg]
     by_cases e:t=s
     ·rw [if_pos e,e,fget_none hno]
     ·rw [if_neg e]
    ·rw [fget]
     by_cases e:t=s
     ·rw [if_pos e,if_pos e.symm]
     ·rw [if_neg e,if_neg (fun q=>e q.symm)]
   ·rw [fget,ih hr,fget]
    by_cases e2:u=t
    ·rw [if_pos e2,if_neg (fun q=>e (e2.trans q)),if_pos e2]
    ·rw [if_neg e2,if_neg e2]
theorem ord_ext {L M:List (List UInt8×FV)} (hL:Ord L) (hM:Ord M) (h : ∀ s,fget L s=fget M s):L=M:=by
 have side : ∀ {A B:List (List UInt8×FV)},Ord A→Ord B→(∀ s,fget A s=fget B s) → ∀ p∈A,p∈B:=fun {A B} hA hB hh p hp=>by
  obtain ⟨s,f⟩:=p
  have e:=fget_mem hA hp
  have hin:s∈B.map (·.1):=by
   rcases Decidable.em (s∈B.map (·.1)) with h | h
   ·exact h
   ·have:=(fget_gone hB).2 h
    rw [← hh,e] at this
    have q:=hA.2 _ hp
    simp only [this] at q; cases q
  have:=fget_in hin
  rw [← hh,e] at this
  exact this
 have nd : ∀ {A:List (List UInt8×FV)},Ord A→A.Nodup:=fun {A} hA=>hA.1.imp fun {a b} hlt e=>by rw [e] at hlt; exact List.lt_irrefl _ hlt
 refine List.Perm.eq_of_pairwise (le:=fun a b=>a.1<b.1) (fun a b _ _ h1 h2=>absurd (List.lt_trans h1 h2) (List.lt_irrefl _)) hL.1 hM.1 ((List.perm_ext_iff_of_nodup (nd hL) (nd hM)).2 fun p=>⟨side hL hM h p,side hM hL (fun s=>(h s).symm) p⟩)
def ch (keep:List Bool) (i:Nat):Bool:=keep.getD (i % keep.length) false
def sec (l:List UInt8) (s:Nat):List UInt8:=(List.range 64).map fun j=>l.getD (64 * s+j) 0
theorem sec_len (l:List UInt8) (s:Nat):(sec l s).length=64:=by simp [sec]
def sgo (keep:List Bool) (f:FV) (i:Nat):Nat→List UInt8×Nat
 | 0=>([],i)
 | s+1=>let r:=sgo keep f i s
  if sec f.now s=sec f.syn s then (r.1++sec f.syn s,r.2) else (r.1++(if ch keep r.2 then sec f.now s else sec f.syn s),r.2+1)
theorem sgo_len (keep:List Bool) (f:FV) (i s:Nat):(sgo keep f i s).1.length=64 * s:=by
 induction s with
 | zero=>rfl
 | succ s ih =>
  simp only [sgo]
  split
  ·simp only [List.length_append,ih,sec_len]; omega
  ·simp only [List.length_append,ih]
   split <;> simp only [sec_len] <;> omega
def nsec (f:FV):Nat:=(max f.now.length f.syn.length+63) / 64
def slen (keep:List Bool) (f:FV) (i:Nat):Nat×Nat :=
 if f.now.length=f.syn.length then (f.syn.length,i) else (if ch keep i then f.now.length else f.syn.length,i+1)
def stay (keep:List Bool) (f:FV) (i:Nat):List UInt8×Nat :=
 let n:=slen keep f i
 let r:=sgo keep f n.2 (nsec f)
 (r.1.take n.1,r.2)
theorem stay_len (keep:List Bool) (f:FV) (i:Nat):(stay keep f i).1.length=(slen keep f i).1:=by
 simp only [stay,List.length_take,sgo_len,nsec]
 have:(slen keep f i).1≤max f.now.length f.syn.length:=by
  unfold slen
  split
  ·exact Nat.le_max_right _ _
  ·split
   ·exact Nat.le_max_left _ _
   ·exact Nat.le_max_right _ _
 omega
def aft (keep:List Bool):List (List UInt8×FV)→Nat→List (List UInt8×List UInt8)
 | [],_=>[]
 | (s,f)::r,i=>let x:=stay keep f i
  if x.1=[] then aft keep r x.2 else (s,x.1)::aft keep r x.2
end Go.Proofs.YtoblgjledefdbaaGreatDoor.St
