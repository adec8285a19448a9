/- Own work. -/
import Derived.BigQuiet
import Derived.Test.YtoblgjledefdbaaGreatDoorQa42
namespace Go.Proofs.YtoblgjledefdbaaGreatDoor
open Go.RowKit
attribute [local go_sem ↓] Go.wp_at_zero Go.wp_at_succ
section
variable {a p:Nat} {U:Nat→Prop} {D:St.DV} {S:St.SV} {L:List ByteArray}
set_option maxRecDepth 100000 in
set_option maxHeartbeats 2000000 in
theorem lhas_yes (w:World) (ht:Tb w) (h:Lg w 0 a p U D S L) (he:S.ends.length=L.length) (hg : ∀ i x,L[i]? = some x→gtD D S L i=(x,0)) (ao:Option Addr) (b len cap:Nat) (hr:RdS w ao b 0 len L) (hz:len≤1000000) :
  Calls Tryz.prog 19 #[.pointer (some ⟨a,0,none⟩),.slice ao len cap] w fun e w'=>e = .returned (.bool true)∧Below w.heap.size w w':=by
 have hl:=hr.hl
 have HS:Hid (Calls Tryz.prog 33 #[.pointer (some ⟨a,0,none⟩)] w fun e w'=>e = .returned (.tuple #[.int .u64 (len:Int),.int .i64 0])∧Below w.heap.size w w'):=lsize_any w h len (by omega)
 have HG:Hid (∀ (W:World) (i:Nat) (x:ByteArray),Below w.heap.size w W→i<len→L[i]? = some x→Calls Tryz.prog 39 #[.pointer (some ⟨a,0,none⟩),.int .u64 (i:Int)] W fun e w'=>e = .returned (.tuple #[.string x,.int .i64 0])∧Below w.heap.size w w'):=fun W i x hW hi hx=>(lget_any W (ht.next hW) (h.next hW) he i (by omega) x 0 (hg i x hx)).mono fun e w' z=>⟨z.1,bnext hW z.2⟩
 have HR:Hid (∀ W,Below w.heap.size w W→RdS W ao b 0 len L):=fun W hW=>hr.next hW (Nat.le_refl _)
 have hptr:=hr.ptr
 have ew0:IntKind.u64.wrap (len:Int)=(len:Int):=by rw [IntKind.wrap_u64]; omega
 clear ht h he hg hr
 go_enter Tryz.func19,Tryz.ntmps19
 go_wp2_with (go_at_call 33; (with_reducible refine HS.out.mono ?_); rintro e w1 ⟨rfl,u1⟩)
 clear ew0
 go_loopg [7] len (fun g x wr => ∃ j:Nat,j≤len∧g=len - j∧x = .int .i64 (j:Int)∧Hid (Below w.heap.size w wr))
 case atStart =>
  go_light
  exact ⟨0,Nat.zero_le _,rfl,rfl,u1⟩
 case round =>
  clear HS u1
  obtain ⟨j,hj,rfl,rfl,HB⟩:=hrel
  by_cases hlt:j<len
  ·have hzj:(j:Int)<(len:Int):=by omega
   obtain rfl:=hptr (by omega)
   obtain ⟨x,hx⟩ : ∃ x,L[j]? = some x:=⟨_,List.getElem?_eq_getElem (by omega)⟩
   have hxd:L.getD j ByteArray.empty=x:=by rw [List.getD_eq_getElem?_getD,hx]; rfl
   have HG1:=hide (HG.out wr j x HB.out hlt hx)
   have HC:Hid (∀ W,Below w.heap.size w W→W.cell? ⟨b,j,none⟩=some (.string x)):=fun W hW=>by
    have:=(HR.out W hW).at hlt
    rwa [hxd,Nat.zero_add] at this
   have HW:Hid (IntKind.u64.wrap (j:Int)=(j:Int)∧IntKind.i64.wrap ((j:Int)+1)=((j+1:Nat):Int)):=⟨by rw [IntKind.wrap_u64]; omega,by rw [IntKind.wrap_i64]; omega⟩
   clear hx hxd HR HG hl
   obtain ⟨ew1,ew2⟩:=HW.out
   go_upto_region 8 with (go_at_call 39; (with_reducible refine HG1.out.mono ?_); rintro e w2 ⟨rfl,u2⟩)
   have c2:=HC.out w2 u2
   have hxx:(!(x.toList == x.toList))=false:=by simp
   clear HC
   go_wp2
   go_roundg (len - (j+1))
   case rel =>
    go_light
    clear ew1 ew2
    exact ⟨j+1,by omega,rfl,rfl,u2⟩
   case measure=>go_light; clear ew1 ew2; omega
  ·have hzj : ¬ (j:Int)<(len:Int):=by omega
   clear HR HG
   go_wp2
   go_ret
   exact ⟨rfl,HB.out⟩
end
end Go.Proofs.YtoblgjledefdbaaGreatDoor
namespace Go.Proofs.YtoblgjledefdbaaGreatDoor
open Go.RowKit
def Dw (w W:World) (p:Nat) (D:St.DV):Prop := ∃ Sd,St.Dsk W p Sd D∧(∀ b,Sd b→w.heap.size≤b)∧Below w.heap.size w W
def Nl (w W:World) (a p:Nat) (D:St.DV) (S:St.SV) (L:List ByteArray):Prop := ∃ U,Lg W 0 a p U D S L∧(∀ b,U b→w.heap.size≤b)∧Below w.heap.size w W
section
variable {w W W1:World} {a p:Nat} {D D':St.DV} {S S':St.SV} {L L':List ByteArray}
theorem Nl.below (h:Nl w W a p D S L):Below w.heap.size w W:=by obtain ⟨_,_,_,hb⟩:=h; exact hb
theorem Nl.next (h:Nl w W a p D S L) (hb:Below W.heap.size W W1):Nl w W1 a p D S L:=by
 obtain ⟨U,h1,h2,h3⟩:=h
 exact ⟨U,h1.next hb,h2,bnext h3 hb⟩
theorem new_dw (w:World) (n:Nat) (hn:n≤268435456):Calls Tryz.prog 10 #[.int .i64 (n:Int)] w fun e w' => ∃ p,e = .returned (.pointer (some ⟨p,0,none⟩))∧Dw w w' p (St.newD n) :=
 (St.new_any w n n (by omega) (by omega)).mono fun e w' z=>by
  obtain ⟨p,Sd,z1,z2,z3,z4⟩:=z
  exact ⟨p,z1,Sd,z2,z3,z4⟩
theorem Dw.base (hb:Below w.heap.size w W) (h:Dw W W1 p D):Dw w W1 p D:=by
 obtain ⟨Sd,h1,h2,h3⟩:=h
 exact ⟨Sd,h1,fun b hb'=>Nat.le_trans hb.size (h2 b hb'),bnext hb h3⟩
theorem Dw.open (ht:Tb w) (h:Dw w W p D) (hrm:St.Rm 7 D) (k:Int) (hl:loD D k=(D',some (S',L'),0)) :
  Calls Tryz.prog 11 #[.pointer (some ⟨p,0,none⟩),.int .i64 k] W fun e w' => ∃ a,e = .returned (.tuple #[.pointer (some ⟨a,0,none⟩),.int .i64 0])∧Nl w w' a p D' S' L'∧S'.ends.length=L'.length:=by
 obtain ⟨Sd,h1,h2,h3⟩:=h
 refine (lopen_any W (ht.next h3) h1 hrm (fun e=>by have:=ht.lt; have:=h2 _ e; omega) k).mono fun e w' z => ?_
 rw [hl] at z
 obtain ⟨a,U,z1,z2,z3,z4,z5,z6⟩:=z
 exact ⟨a,z1,⟨U,z2,fun b hb=>(z3 b hb).elim (h2 b) (fun e=>Nat.le_trans h3.size e),h3.trans (z5.below h3.size h2)⟩,z6⟩
theorem Nl.tb (h:Nl w W a p D S L) (ht:Tb w):Tb W:=ht.next h.below
theorem Nl.append (h:Nl w W a p D S L) (ht:Tb w) (he:S.ends.length=L.length) (hb:Below W.heap.size W W1) (ao:Option Addr) (b len cap:Nat) (xs:List ByteArray) (hr:RdS W1 ao b 0 len xs) (hlen:len≤1000000) (n3:0<len→b<w.heap.size∨W.heap.size≤b) (hR:RmA D S L xs) (n:Nat) (e0:Int) (hA:apD D S L xs=(D',S',L',n,e0)) :
  Calls Tryz.prog 14 #[.pointer (some ⟨a,0,none⟩),.slice ao len cap] W1 fun e w'=>e = .returned (.tuple #[.int .i64 (n:Int),.int .i64 e0])∧Nl w w' a p D' S' L':=by
 have h1:=h.next hb
 have ht1:=h1.tb ht
 obtain ⟨U,y1,y2,y3⟩:=h
 refine (lappend_any W1 ht1 (y1.next hb) he ao b len cap xs hr (by omega) (fun h0 hu => ?_) hR n e0 hA).mono fun e w' z=>⟨z.1,?_⟩
 ·have:=y1.lt hu
  have:=y2 b hu
  rcases n3 h0 with e | e <;> omega
 ·obtain ⟨U',z1,z2,z3⟩:=z.2
  have hb3:=bnext y3 hb
  exact ⟨U',z1,fun c hc=>(z2 c hc).elim (y2 c) (fun e=>Nat.le_trans hb3.size e),hb3.trans (z3.below hb3.size y2)⟩
theorem Nl.get (h:Nl w W a p D S L) (ht:Tb w) (he:S.ends.length=L.length) (i:Nat) (hi:i<18446744073709551616) (t:ByteArray) (e0:Int) (hg:gtD D S L i=(t,e0)):Calls Tryz.prog 39 #[.pointer (some ⟨a,0,none⟩),.int .u64 (i:Int)] W fun e w'=>e = .returned (.tuple #[.string t,.int .i64 e0])∧Below W.heap.size W w':=by
 have ht1:=h.tb ht
 obtain ⟨U,y1,y2,y3⟩:=h
 exact lget_any W ht1 y1 he i hi t e0 hg
theorem Nl.has (h:Nl w W a p D S L) (ht:Tb w) (he:S.ends.length=L.length) (hg : ∀ i x,L[i]? = some x→gtD D S L i=(x,0)) (ao:Option Addr) (b len cap:Nat) (hr:RdS W ao b 0 len L) (hz:len≤1000000):Calls Tryz.prog 19 #[.pointer (some ⟨a,0,none⟩),.slice ao len cap] W fun e w'=>e = .returned (.bool true)∧Below W.heap.size W w':=by
 have ht1:=h.tb ht
 obtain ⟨U,y1,y2,y3⟩:=h
 exact lhas_yes W ht1 y1 he hg ao b len cap hr hz
theorem Nl.root (h:Nl w W a p D S L) (ht:Tb w) (n:Nat) (hn:n≤L.length) (r:ByteArray) (hq:rtD S.k L n=r):Calls Tryz.prog 20 #[.pointer (some ⟨a,0,none⟩),.int .u64 (n:Int)] W fun e w'=>e = .returned (.tuple #[.agg #[.int .u64 (n:Int),.string r],.int .i64 0])∧Below W.heap.size W w':=by
 have ht1:=h.tb ht
 obtain ⟨U,y1,y2,y3⟩:=h
 exact lroot_ok W ht1 y1 n hn r hq
theorem Nl.batch (h:Nl w W a p D S L) (ht:Tb w) (hL:L.length≤5000) (n:Nat) (hn:n≤L.length) (hb:Below W.heap.size W W1) (ao:Option Addr) (b off len c:Nat) (X:List Nat) (hr:RdU W1 ao b off len X) (hbl:0<len→b<w.heap.size∨W.heap.size≤b) (he:Cv.errS n X=0) :
  Calls Tryz.prog 38 #[.pointer (some ⟨a,0,none⟩),.int .u64 (n:Int),.slice ao len c] W1 fun e w'=>e = .returned (.tuple #[.string ⟨(enc (pvB S.k L n X)).toArray⟩,.int .i64 0])∧Below W1.heap.size W1 w':=by
 have ht1:=(h.next hb).tb ht
 obtain ⟨U,y1,y2,y3⟩:=h
 refine lbatch_ok W1 ht1 (y1.next hb) hL n hn ao b off len c X hr (fun h0 e => ?_) he
 have:=y1.lt y1.own
 have:=y2 a y1.own
 rcases hbl h0 with e1 | e1 <;> omega
end
end Go.Proofs.YtoblgjledefdbaaGreatDoor
namespace Go.Proofs.YtoblgjledefdbaaGreatDoor
open Go.RowKit
attribute [local go_sem ↓] Go.wp_at_zero Go.wp_at_succ
theorem six_put {w:World} {b:Nat} {x0 x1 x2 x3 x4 x5:Value} {T:TypeId} (h:w.heap[b]? = some (.cells #[x0,x1,x2,x3,x4,x5] T (0,0))) (y2 y3 y4 y5:Value):((((w.setCell ⟨b,2,none⟩ y2).setCell ⟨b,3,none⟩ y3).setCell ⟨b,4,none⟩ y4).setCell ⟨b,5,none⟩ y5).heap[b]? = some (.cells #[x0,x1,y2,y3,y4,y5] T (0,0)) :=
 heap_setCell_same _ b 5 _ _ y5 (heap_setCell_same _ b 4 _ _ y4 (heap_setCell_same _ b 3 _ _ y3 (heap_setCell_same w b 2 _ _ y2 h)))
set_option maxRecDepth 100000 in
set_option maxHeartbeats 2000000 in
theorem closeC_any (w:World) (a bl:Nat) (g:Int) (x1:Value) (st:Option Addr) (x3 x4 x5:Value) (hr:w.heap[a]? = some (rwL g x1 st x3 x4 x5)) (cl:w.cell? ⟨bl,0,none⟩=some (.pointer (some ⟨a,0,none⟩))) :
  Calls Tryz.prog 61 #[.pointer (some ⟨bl,0,none⟩)] w fun e w'=>e = .returned (.tuple #[.int .i64 0,.int .i64 0])∧w'=(((w.setCell ⟨a,2,none⟩ (.pointer none)).setCell ⟨a,3,none⟩ (.pointer none)).setCell ⟨a,4,none⟩ (.pointer none)).setCell ⟨a,5,none⟩ (.slice none 0 0):=by
 obtain ⟨_,c2,c3,c4,c5,cf⟩:=rwL_at hr
 have f2:=cf 2
 have f3:=cf 3
 have f4:=cf 4
 have f5:=cf 5
 clear hr cf
 go_enter Tryz.func61,Tryz.ntmps61
 go_wp2
 go_ret2
 exact ⟨rfl,rfl⟩
def Cls (w W:World) (a:Nat):Prop := ∃ x1 x3 x4 x5,W.heap[a]? = some (rwL 0 x1 none x3 x4 x5)∧w.heap.size≤a∧Below w.heap.size w W
section
variable {w W W1:World} {a p:Nat} {D D':St.DV} {S S':St.SV} {L L':List ByteArray}
set_option maxRecDepth 100000 in
set_option maxHeartbeats 2000000 in
theorem Nl.close (h:Nl w W a p D S L):Calls Tryz.prog 22 #[.pointer (some ⟨a,0,none⟩)] W fun e w'=>e = .returned (.int .i64 0)∧Cls w w' a:=by
 obtain ⟨U,h1,h2,h3⟩:=h
 obtain ⟨q,m,r,vs,hrow,_,_⟩:=h1.row
 have hax:=h1.lt h1.own
 have haw:=h2 a h1.own
 obtain ⟨w1,hw1⟩ : ∃ V,W.alloc (.cells #[.pointer (some ⟨a,0,none⟩)] 27)=V:=⟨_,rfl⟩
 have u1:Below W.heap.size W w1:=by rw [← hw1]; exact bal (Below.refl _ _) _
 have k0:w1.heap[W.heap.size]? = some (.cells #[.pointer (some ⟨a,0,none⟩)] 27 (0,0)):=by rw [← hw1]; exact heap_alloc_new W _
 have b0:w1.cell? ⟨W.heap.size,0,none⟩=some (.pointer (some ⟨a,0,none⟩)):=by rw [cell_of_row _ _ 0 _ _ (0,0) k0]; rfl
 have hr1:=(u1.block a hax).trans hrow
 obtain ⟨c0,c2,_,_,_,cf⟩:=rwL_at hr1
 have hr2:(w1.setCell ⟨a,0,none⟩ (.int .i32 1)).heap[a]? = some (rwL 1 (.int .u32 0) (some ⟨q,0,none⟩) (.pointer (some ⟨m+1,0,none⟩)) (.pointer (some ⟨r,0,none⟩)) vs):=heap_setCell_same w1 a 0 _ _ _ hr1
 have b1:(w1.setCell ⟨a,0,none⟩ (.int .i32 1)).cell? ⟨W.heap.size,0,none⟩=some (.pointer (some ⟨a,0,none⟩)):=(World.cell?_of_block (a:=⟨W.heap.size,0,none⟩) (Below.heap_setCell _ _ _ _ (by show W.heap.size≠a; omega))).trans b0
 have HW:Hid (Calls Tryz.prog 47 #[.pointer (some ⟨a,0,none⟩),.func (.func 61) #[] #[.pointer (some ⟨W.heap.size,0,none⟩)]] w1 fun e w'=>e = .returned (.tuple #[.int .i64 0,.int .i64 0])∧Cls w w' a):=by
  refine (wholeI_any w1 a q _ _ (.inr rfl) c0 (cf 0) c2 (fun x y V=>x = .int .i64 0∧y = .int .i64 0∧V=((((w1.setCell ⟨a,0,none⟩ (.int .i32 1)).setCell ⟨a,2,none⟩ (.pointer none)).setCell ⟨a,3,none⟩ (.pointer none)).setCell ⟨a,4,none⟩ (.pointer none)).setCell ⟨a,5,none⟩ (.slice none 0 0)) ?_).mono fun e w' z => ?_
  ·refine (closeC_any _ a W.heap.size 1 _ _ _ _ _ hr2 b1).mono fun e w' z => ?_
   obtain ⟨rfl,rfl⟩:=z
   have q:=six_put hr2 (.pointer none) (.pointer none) (.pointer none) (.slice none 0 0)
   exact ⟨_,_,rfl,by rw [cell_of_row _ a 0 _ _ (0,0) q]; rfl,frozen_of_row _ a 0 _ _ q,rfl,rfl,rfl⟩
  ·obtain ⟨x,y,w2,rfl,⟨rfl,rfl,rfl⟩,rfl⟩:=z
   have q:=six_put hr2 (.pointer none) (.pointer none) (.pointer none) (.slice none 0 0)
   refine ⟨rfl,_,_,_,_,heap_setCell_same _ a 0 _ _ (.int .i32 0) q,haw,?_⟩
   exact ((((((bnext h3 u1).setCell (p:=⟨a,0,none⟩) haw _).setCell (p:=⟨a,2,none⟩) haw _).setCell (p:=⟨a,3,none⟩) haw _).setCell (p:=⟨a,4,none⟩) haw _).setCell (p:=⟨a,5,none⟩) haw _).setCell (p:=⟨a,0,none⟩) haw _
 clear h1 h2 h3 hrow hax haw u1 k0 hr1 c0 c2 cf hr2 b1
 have HW1:=hide hw1
 clear hw1
 go_enter Tryz.func22,Tryz.ntmps22
 go_upto_region 1 with (fail)
 rw [HW1.out]
 go_wp2_with (go_at_call 47; (with_reducible refine HW.out.mono ?_); rintro e w2 ⟨rfl,t2⟩)
 go_ret
 exact ⟨rfl,t2⟩
set_option maxRecDepth 100000 in
theorem Cls.close (h:Cls w W a):Calls Tryz.prog 22 #[.pointer (some ⟨a,0,none⟩)] W fun e w'=>e = .returned (.int .i64 200)∧Below w.heap.size w w':=by
 obtain ⟨x1,x3,x4,x5,hr,_,h3⟩:=h
 obtain ⟨w1,hw1⟩ : ∃ V,W.alloc (.cells #[.pointer (some ⟨a,0,none⟩)] 27)=V:=⟨_,rfl⟩
 have u1:Below W.heap.size W w1:=by rw [← hw1]; exact bal (Below.refl _ _) _
 have k0:w1.heap[W.heap.size]? = some (.cells #[.pointer (some ⟨a,0,none⟩)] 27 (0,0)):=by rw [← hw1]; exact heap_alloc_new W _
 have b0:w1.cell? ⟨W.heap.size,0,none⟩=some (.pointer (some ⟨a,0,none⟩)):=by rw [cell_of_row _ _ 0 _ _ (0,0) k0]; rfl
 have hr1:=(u1.block a (Array.getElem?_eq_some_iff.1 hr).1).trans hr
 have HW:Hid (∀ f,Calls Tryz.prog 47 #[.pointer (some ⟨a,0,none⟩),f] w1 fun e w'=>e = .returned (.tuple #[.int .i64 0,.int .i64 200])∧Below w.heap.size w w'):=fun f=>(wholeI_closed w1 a f hr1).mono fun e w' z=>⟨z.1,bnext (bnext h3 u1) z.2⟩
 clear hr h3 u1 k0 hr1
 have HW1:=hide hw1
 clear hw1
 go_enter Tryz.func22,Tryz.ntmps22
 go_upto_region 1 with (fail)
 rw [HW1.out]
 go_wp2_with (go_at_call 47; (with_reducible refine (HW.out _).mono ?_); rintro e w2 ⟨rfl,t2⟩)
 go_ret
 exact ⟨rfl,t2⟩
end
end Go.Proofs.YtoblgjledefdbaaGreatDoor
namespace Go.Proofs.YtoblgjledefdbaaGreatDoor.St
open Go.RowKit
open Rc
attribute [local go_sem ↓] Go.wp_at_zero Go.wp_at_succ
theorem new_ext (k R:Nat):Ext k [] (newD R).L∧Qt R (newD R):=⟨⟨rfl,rfl,rfl,fun _ _ _ _=>rfl⟩,rfl,rfl,ord_nil,rfl⟩
theorem qt_rm {R:Nat} {D:DV} (h:Qt R D) (he:Oth D.L) (hR:R≤268435456) (ha:D.acts≤1000000):Rm 7 D:=⟨by omega,by have:=(tot_three h.ord he).2; omega,by have:=h.tot; omega⟩
end Go.Proofs.YtoblgjledefdbaaGreatDoor.St
namespace Go.Proofs.YtoblgjledefdbaaGreatDoor.St
open Rc
def unS (f:FV):Nat→Nat
 | 0=>0
 | s+1=>unS f s+(if sec f.now s=sec f.syn s then 0 else 1)
theorem sgo_cntS (keep:List Bool) (f:FV) (i s:Nat):(sgo keep f i s).2=i+unS f s:=by
 induction s with
 | zero=>rfl
 | succ s ih =>
  simp only [sgo,unS]
  split
  ·simp only [ih]; omega
  ·simp only [ih]; omega
def tkS (keep:List Bool) (f:FV) (i s:Nat):Bool := !decide (sec f.now s=sec f.syn s) && ch keep (i+unS f s)
theorem sec_atS (l:List UInt8) (s r:Nat) (hr:r<64):(sec l s).getD r 0=l.getD (64 * s+r) 0:=by
 simp [sec,List.getD_eq_getElem?_getD,hr]
theorem sgo_atS (keep:List Bool) (f:FV) (i:Nat) : ∀ (n s r:Nat),s<n→r<64→(sgo keep f i n).1.getD (64 * s+r) 0=(if tkS keep f i s then f.now else f.syn).getD (64 * s+r) 0
 | 0,s,r,h,_=>by omega
 | n+1,s,r,h,hr=>by
  have hl:=sgo_len keep f i n
  have hc:=sgo_cntS keep f i n
  have happ : ∀ X:List UInt8,((sgo keep f i n).1++X).getD (64 * s+r) 0=if s<n then (sgo keep f i n).1.getD (64 * s+r) 0 else X.getD (64 * s+r - 64 * n) 0:=fun X=>by
   simp only [List.getD_eq_getElem?_getD]
   split
   ·rw [List.getElem?_append_left (by omega)]
   ·rw [List.getElem?_append_right (by omega),hl]
  have ih:=sgo_atS keep f i n s r
  simp only [sgo]
  by_cases e:s<n
  ·have:=ih e hr
   split
   ·rw [happ,if_pos e,this]
   ·rw [happ,if_pos e,this]
  ·obtain rfl:s=n:=by omega
   have hz:64 * s+r - 64 * s=r:=by omega
   split
   ·rename_i he
    rw [happ,if_neg e,hz,sec_atS _ _ _ hr]
    simp [tkS,he]
   ·rename_i he
    simp only
    rw [happ,if_neg e,hz,hc]
    cases hch:ch keep (i+unS f s)
    ·simp only [tkS,hch,Bool.and_false,if_false,Bool.false_eq_true]
     exact sec_atS _ _ _ hr
    ·simp only [tkS,hch,he,decide_false,Bool.not_false,Bool.and_true,if_true]
     exact sec_atS _ _ _ hr
theorem slen_leS (keep:List Bool) (f:FV) (i:Nat):(slen keep f i).1=f.now.length∨(slen keep f i).1=f.syn.length:=by
 unfold slen
 split
 ·exact .inr rfl
 ·split
  ·exact .inl rfl
  ·exact .inr rfl
theorem stay_atS (keep:List Bool) (f:FV) (i j:Nat) (hj:j<(slen keep f i).1):(stay keep f i).1.getD j 0=(if tkS keep f (slen keep f i).2 (j / 64) then f.now else f.syn).getD j 0:=by
 have h1:=slen_leS keep f i
 have h2:j / 64<nsec f:=by unfold nsec; omega
 have h3:=sgo_atS keep f (slen keep f i).2 (nsec f) (j / 64) (j % 64) h2 (Nat.mod_lt _ (by omega))
 rw [show 64 * (j / 64)+j % 64=j from Nat.div_add_mod j 64] at h3
 rw [← h3]
 simp only [stay,List.getD_eq_getElem?_getD,List.getElem?_take,hj,if_true]
theorem list_extS {a b:List UInt8} (hl:a.length=b.length) (h : ∀ j,j<a.length→a.getD j 0=b.getD j 0):a=b:=by
 apply List.ext_getElem hl
 intro j h1 h2
 have:=h j h1
 simpa [List.getD_eq_getElem?_getD,List.getElem?_eq_getElem h1,List.getElem?_eq_getElem h2] using this
theorem getD_take (l:List UInt8) (n j:Nat) (h:j<n):(l.take n).getD j 0=l.getD j 0:=by
 simp [List.getD_eq_getElem?_getD,h]
theorem pre_iff {p l:List UInt8} (hl:p.length≤l.length) (h : ∀ j,j<p.length→l.getD j 0=p.getD j 0):p <+: l:=by
 rw [List.prefix_iff_eq_take]
 refine list_extS (by rw [List.length_take]; omega) fun j hj => ?_
 rw [getD_take _ _ _ hj,h j hj]
theorem pre_at {p l:List UInt8} (h:p <+: l) (j:Nat) (hj:j<p.length):l.getD j 0=p.getD j 0:=by
 rw [List.prefix_iff_eq_take.1 h,List.length_take] at *
 rw [getD_take _ _ _ (by omega)]
theorem stay_lenS (keep:List Bool) (f:FV) (i:Nat):(stay keep f i).1.length=f.now.length∨(stay keep f i).1.length=f.syn.length:=by
 rw [stay_len]; exact slen_leS keep f i
theorem stay_pre (keep:List Bool) (f:FV) (i:Nat) {p:List UInt8} (h1:p <+: f.now) (h2:p <+: f.syn):p <+: (stay keep f i).1:=by
 have hl:=stay_len keep f i
 have hs:=slen_leS keep f i
 have l1:=h1.length_le
 have l2:=h2.length_le
 refine pre_iff (by omega) fun j hj => ?_
 rw [stay_atS keep f i j (by omega)]
 split
 ·exact pre_at h1 j hj
 ·exact pre_at h2 j hj
theorem stay_mark (keep:List Bool) (m t u:List UInt8) (n i:Nat) (hm:m.length=64 * n) (ht:t=[]∨t.length=64) (hu:u=[]∨u.length=64):(stay keep ⟨m++t,m++u⟩ i).1=m∨(stay keep ⟨m++t,m++u⟩ i).1=m++sec (m++t) n∨(stay keep ⟨m++t,m++u⟩ i).1=m++sec (m++u) n:=by
 obtain ⟨y,hy⟩:=stay_pre keep ⟨m++t,m++u⟩ i (p:=m) (List.prefix_append _ _) (List.prefix_append _ _)
 have hl:=stay_len keep ⟨m++t,m++u⟩ i
 have hs:=slen_leS keep ⟨m++t,m++u⟩ i
 simp only [List.length_append] at hs
 have ht':t.length=0∨t.length=64:=ht.imp (fun e=>by rw [e]; rfl) id
 have hu':u.length=0∨u.length=64:=hu.imp (fun e=>by rw [e]; rfl) id
 have hyl:y.length=0∨y.length=64:=by
  rw [← hy,List.length_append] at hl
  omega
 rcases hyl with h0 | h64
 ·left
  rw [← hy,List.length_eq_zero_iff.1 h0,List.append_nil]
 ·right
  have hat : ∀ r,r<64→y.getD r 0=(if tkS keep ⟨m++t,m++u⟩ (slen keep ⟨m++t,m++u⟩ i).2 n then m++t else m++u).getD (64 * n+r) 0:=fun r hr=>by
   have h3:=stay_atS keep ⟨m++t,m++u⟩ i (64 * n+r) (by rw [← hl,← hy,List.length_append]; omega)
   rw [show (64 * n+r) / 64=n by omega] at h3
   rw [← h3,← hy,List.getD_eq_getElem?_getD,List.getD_eq_getElem?_getD,List.getElem?_append_right (by omega),show 64 * n+r - m.length=r by omega]
  cases hc:tkS keep ⟨m++t,m++u⟩ (slen keep ⟨m++t,m++u⟩ i).2 n
  ·right
   rw [← hy]
   congr 1
   refine list_extS (by rw [h64,sec_len]) fun r hr => ?_
   rw [hat r (by omega),hc,sec_atS _ _ _ (by omega)]; rfl
  ·left
   rw [← hy]
   congr 1
   refine list_extS (by rw [h64,sec_len]) fun r hr => ?_
   rw [hat r (by omega),hc,sec_atS _ _ _ (by omega)]; rfl
theorem sec_end (m t:List UInt8) (n:Nat) (hm:m.length=64 * n) (ht:t.length=64):sec (m++t) n=t:=by
 refine list_extS (by rw [sec_len,ht]) fun r hr => ?_
 rw [sec_len] at hr
 rw [sec_atS _ _ _ hr,List.getD_eq_getElem?_getD,List.getD_eq_getElem?_getD,List.getElem?_append_right (by omega),show 64 * n+r - m.length=r by omega]
theorem sec_out (m:List UInt8) (n:Nat) (hm:m.length=64 * n):sec m n=zer 64:=by
 refine list_extS (by rw [sec_len,zer_len]) fun r hr => ?_
 rw [sec_len] at hr
 rw [sec_atS _ _ _ hr,List.getD_eq_getElem?_getD,List.getElem?_eq_none (by omega),List.getD_eq_getElem?_getD]
 unfold zer
 rw [List.getElem?_replicate,if_pos hr]; rfl
theorem aft_none (ks:List Bool) (s:List UInt8) : ∀ (L:List (List UInt8×FV)) (i:Nat),(∀ p∈L,s<p.1)→fget (allS (aft ks L i)) s=fz
 | [],_,_=>rfl
 | (t,f)::r,i,h=>by
  have ih:=aft_none ks s r (stay ks f i).2 (fun p hp=>h p (List.mem_cons_of_mem _ hp))
  simp only [aft]
  split
  ·exact ih
  ·show (if t=s then (⟨_,_⟩:FV) else fget (allS _) s)=_
   rw [if_neg (fun e=>by have:=h (t,f) (by simp); rw [e] at this; exact List.lt_irrefl _ this)]
   exact ih
theorem stay_fz (ks:List Bool) (i:Nat):(stay ks fz i).1=[]:=by
 rw [← List.length_eq_zero_iff]
 rcases stay_lenS ks fz i with h | h
 ·rw [h]; rfl
 ·rw [h]; rfl
theorem aft_get (ks:List Bool) (s:List UInt8) : ∀ (L:List (List UInt8×FV)) (i:Nat),L.Pairwise (fun a b=>a.1<b.1) → ∃ j,fget (allS (aft ks L i)) s=⟨(stay ks (fget L s) j).1,(stay ks (fget L s) j).1⟩
 | [],i,_=>⟨0,by show fz=⟨(stay ks fz 0).1,(stay ks fz 0).1⟩; rw [stay_fz]; rfl⟩
 | (t,f)::r,i,h=>by
  obtain ⟨h1,h2⟩:=List.pairwise_cons.1 h
  obtain ⟨j,ih⟩:=aft_get ks s r (stay ks f i).2 h2
  by_cases e:t=s
  ·subst e
   refine ⟨i,?_⟩
   rw [fget,if_pos rfl]
   simp only [aft]
   split
   ·rename_i h0
    rw [aft_none ks t r _ h1,h0]; rfl
   ·show (if t=t then (⟨_,_⟩:FV) else fget (allS _) t)=_
    rw [if_pos rfl]
  ·refine ⟨j,?_⟩
   rw [fget,if_neg e]
   simp only [aft]
   split
   ·exact ih
   ·show (if t=s then (⟨_,_⟩:FV) else fget (allS _) s)=_
    rw [if_neg e]
    exact ih
theorem lay_aft {L:List (List UInt8×FV)} (ho:Ord L) (ks:List Bool) (s:List UInt8) : ∃ j,fget (layL (aft ks L 0)) s=⟨(stay ks (fget L s) j).1,(stay ks (fget L s) j).1⟩:=by
 rw [lay_sor _ (aft_sor ks L 0 ho.1)]
 exact aft_get ks s L 0 ho.1
theorem sor_ord {F:List (List UInt8×List UInt8)} (h:Sor F):Ord (layL F):=by
 rw [lay_sor _ h]
 refine ⟨List.pairwise_map.2 h.1,fun p hp => ?_⟩
 obtain ⟨y,hy,rfl⟩:=List.mem_map.1 hp
 cases hg:(⟨y.2,y.2⟩:FV).gone
 ·rfl
 ·exact absurd (congrArg FV.now (gone_iff.1 hg)) (h.2 y hy)
abbrev LL:=List (List UInt8×FV)
structure Qf (R:Nat) (D:DV):Prop where
 down:D.down=false
 ord:Ord D.L
 tot:D.free+tot D.L=R
theorem Qt.qf {R:Nat} {D:DV} (h:Qt R D):Qf R D:=⟨h.down,h.ord,h.tot⟩
def Af (R:Nat) (D:DV) (M:LL) (x:DV×Int):Prop :=
 x.1.acts=D.acts+1∧(D.fk=0→x.1.fk=0)∧((x.2=0∧Qf R x.1∧x.1.L=M) ∨
  (x.2≠0∧D.fk≠0∧((Qf R x.1∧(x.1.L=D.L∨x.1.L=M))∨(x.1.down=true∧x.1.free≤R ∧ ∃ ks,x.1.L=layL (aft ks D.L 0)∨x.1.L=layL (aft ks M 0)))))
theorem act_f {R:Nat} {D:DV} (h:Qf R D) (s:List UInt8) (f:FV) (hf:f.now.length≤D.free+(fget D.L s).now.length):Af R D (fput D.L s f) (actD D s f):=by
 have ht:=tot_put h.ord s f
 have hT:=h.tot
 have hR:D.free+(fget D.L s).now.length - f.now.length+tot (fput D.L s f)=R:=by omega
 by_cases h0:D.fk=0
 ·rw [actD_plain h0]
  exact ⟨rfl,fun _=>h0,.inl ⟨rfl,⟨h.down,ord_fput h.ord s f,hR⟩,rfl⟩⟩
 ·by_cases h1:1<D.fa
  ·have e:metD { D with acts:=D.acts+1 } = ({ D with acts:=D.acts+1,fa:=D.fa - 1 },0,[]):=by
    unfold metD
    rw [if_neg (show ¬ D.fk=0 from h0),if_pos (show 1<D.fa from h1)]
   have e2:actD D s f=(dput { D with acts:=D.acts+1,fa:=D.fa - 1 } s f,0):=by unfold actD; rw [e]; rfl
   rw [e2]
   exact ⟨rfl,fun q=>absurd q h0,.inl ⟨rfl,⟨h.down,ord_fput h.ord s f,hR⟩,rfl⟩⟩
  ·have e:metD { D with acts:=D.acts+1 } = ({ D with acts:=D.acts+1,fa:=0,fk:=0,ks:=[] },D.fk,D.ks):=by
    unfold metD
    rw [if_neg (show ¬ D.fk=0 from h0),if_neg (show ¬ 1<D.fa from h1)]
   have q1:Qf R { D with acts:=D.acts+1,fa:=0,fk:=0,ks:=[] } := ⟨h.down,h.ord,h.tot⟩
   have q2:Qf R (dput { D with acts:=D.acts+1,fa:=0,fk:=0,ks:=[] } s f):=⟨h.down,ord_fput h.ord s f,hR⟩
   unfold actD
   rw [e]
   simp only
   split
   ·exact ⟨rfl,fun _=>rfl,.inr ⟨(by decide:(171:Int)≠0),h0,.inl ⟨q1,.inl rfl⟩⟩⟩
   ·split
    ·exact ⟨rfl,fun _=>rfl,.inr ⟨(by decide:(172:Int)≠0),h0,.inl ⟨q1,.inl rfl⟩⟩⟩
    ·split
     ·exact ⟨rfl,fun _=>rfl,.inr ⟨(by decide:(170:Int)≠0),h0,.inr ⟨rfl,by show D.free≤R; omega,D.ks,.inl rfl⟩⟩⟩
     ·split
      ·exact ⟨rfl,fun _=>rfl,.inr ⟨(by decide:(171:Int)≠0),h0,.inl ⟨q2,.inr rfl⟩⟩⟩
      ·split
       ·exact ⟨rfl,fun _=>rfl,.inr ⟨(by decide:(170:Int)≠0),h0,.inr ⟨rfl,by show D.free+(fget D.L s).now.length - f.now.length≤R; omega,D.ks,.inr rfl⟩⟩⟩
       ·exact ⟨rfl,fun _=>rfl,.inl ⟨rfl,q2,rfl⟩⟩
def Stp (R:Nat) (P Q:LL→Prop) (f:DV→DV×Int):Prop := ∀ D,Qf R D→P D.L→(∃ s g,f D=actD D s g∧g.now.length≤D.free+(fget D.L s).now.length∧Q (fput D.L s g))∨(f D=(D,0)∧Q D.L)
inductive Chn (R:Nat) (I:LL→Prop):List (DV→DV×Int)→(LL→Prop)→(LL→Prop)→Prop
 | nil (P:LL→Prop):(∀ L,P L→I L)→Chn R I [] P P
 | cons (P P' Q:LL→Prop) (f:DV→DV×Int) (r:List (DV→DV×Int)):(∀ L,P L→I L)→Stp R P P' f→Chn R I r P' Q→Chn R I (f::r) P Q
theorem Chn.first {R:Nat} {I P Q:LL→Prop} {r:List (DV→DV×Int)} (h:Chn R I r P Q) : ∀ L,P L→I L:=by
 cases h with
 | nil _ h=>exact h
 | cons _ _ _ _ _ h _ _=>exact h
structure Run (R n:Nat) (I Q:LL→Prop) (D:DV) (x:DV×Int):Prop where
 acts:x.1.acts≤D.acts+n
 fk:D.fk=0→x.1.fk=0
 out:(x.2=0∧Qf R x.1∧Q x.1.L)∨(x.2≠0∧D.fk≠0∧x.1.free≤R∧Ord x.1.L∧I x.1.L∧(Qf R x.1∨x.1.down=true))
theorem run_chn {R:Nat} {I:LL→Prop} (hI : ∀ L ks,Ord L→I L→I (layL (aft ks L 0))) : ∀ (r:List (DV→DV×Int)) (P Q:LL→Prop),Chn R I r P Q → ∀ D,Qf R D→P D.L→Run R r.length I Q D (runA r D)
 | [],_,_,.nil P h0,D,hq,hp=>⟨Nat.le_refl _,fun h=>h,.inl ⟨rfl,hq,hp⟩⟩
 | f::r,_,_,.cons P P' Q _ _ h0 hs hc,D,hq,hp=>by
  have hfr : ∀ X:DV,Qf R X→X.free≤R:=fun X h=>by have:=h.tot; omega
  rcases hs D hq hp with ⟨s,g,e,hf,hp'⟩ | ⟨e,hp'⟩
  ·obtain ⟨a1,a2,a3⟩:=act_f hq s g hf
   rw [← e] at a1 a2 a3
   rw [runA]
   rcases a3 with ⟨b1,b2,b3⟩ | ⟨b1,b2,b3⟩
   ·rw [if_pos b1]
    have ih:=run_chn hI r P' Q hc (f D).1 b2 (by rw [b3]; exact hp')
    refine ⟨by have:=ih.acts; simp only [List.length_cons]; omega,fun h=>ih.fk (a2 h),?_⟩
    rcases ih.out with h | ⟨h1,h2,h3⟩
    ·exact .inl h
    ·exact .inr ⟨h1,fun h=>h2 (a2 h),h3⟩
   ·rw [if_neg b1]
    refine ⟨by rw [a1]; simp only [List.length_cons]; omega,a2,.inr ⟨b1,b2,?_⟩⟩
    have hom:=ord_fput hq.ord s g
    rcases b3 with ⟨c1,c2⟩ | ⟨c1,c2,ks,c3⟩
    ·refine ⟨hfr _ c1,c1.ord,?_,.inl c1⟩
     rcases c2 with c2 | c2
     ·rw [c2]; exact h0 _ hp
     ·rw [c2]; exact hc.first _ hp'
    ·rcases c3 with c3 | c3
     ·exact ⟨c2,by rw [c3]; exact sor_ord (aft_sor ks _ 0 hq.ord.1),by rw [c3]; exact hI _ _ hq.ord (h0 _ hp),.inr c1⟩
     ·exact ⟨c2,by rw [c3]; exact sor_ord (aft_sor ks _ 0 hom.1),by rw [c3]; exact hI _ _ hom (hc.first _ hp'),.inr c1⟩
  ·rw [runA,e,if_pos rfl]
   have ih:=run_chn hI r P' Q hc D hq hp'
   exact ⟨by have:=ih.acts; simp only [List.length_cons]; omega,ih.fk,ih.out⟩
structure Cn (ia is na ns ma ms:List UInt8) (L:LL):Prop where
 i:fget L nmI=⟨ia,is⟩
 n:fget L nmN=⟨na,ns⟩
 m:fget L nmM=⟨ma,ms⟩
 oth:Oth L
section
variable {ia is na ns ma ms:List UInt8} {L:LL}
theorem Cn.putI (h:Cn ia is na ns ma ms L) (ho:Ord L) (x y:List UInt8):Cn x y na ns ma ms (fput L nmI ⟨x,y⟩) :=
 ⟨by rw [fget_fput ho,if_pos rfl],by rw [fget_fput ho,if_neg ne_IN.symm,h.n],by rw [fget_fput ho,if_neg ne_IM.symm,h.m],fun s h1 h2 h3=>by rw [fget_fput ho,if_neg h1]; exact h.oth s h1 h2 h3⟩
theorem Cn.putN (h:Cn ia is na ns ma ms L) (ho:Ord L) (x y:List UInt8):Cn ia is x y ma ms (fput L nmN ⟨x,y⟩) :=
 ⟨by rw [fget_fput ho,if_neg ne_IN,h.i],by rw [fget_fput ho,if_pos rfl],by rw [fget_fput ho,if_neg ne_NM.symm,h.m],fun s h1 h2 h3=>by rw [fget_fput ho,if_neg h2]; exact h.oth s h1 h2 h3⟩
theorem Cn.putM (h:Cn ia is na ns ma ms L) (ho:Ord L) (x y:List UInt8):Cn ia is na ns x y (fput L nmM ⟨x,y⟩) :=
 ⟨by rw [fget_fput ho,if_neg ne_IM,h.i],by rw [fget_fput ho,if_neg ne_NM,h.n],by rw [fget_fput ho,if_pos rfl],fun s h1 h2 h3=>by rw [fget_fput ho,if_neg h3]; exact h.oth s h1 h2 h3⟩
theorem Cn.tot (h:Cn ia is na ns ma ms L) (ho:Ord L):tot L=ia.length+na.length+ma.length:=by
 have:=(tot_three ho h.oth).1
 rwa [h.i,h.n,h.m] at this
theorem Cn.fall (h:Cn ia is na ns ma ms L) (ho:Ord L) (ks:List Bool) : ∃ x y z j1 j2 j3,Cn x x y y z z (layL (aft ks L 0))∧x=(stay ks ⟨ia,is⟩ j1).1∧y=(stay ks ⟨na,ns⟩ j2).1∧z=(stay ks ⟨ma,ms⟩ j3).1:=by
 obtain ⟨j1,e1⟩:=lay_aft ho ks nmI
 obtain ⟨j2,e2⟩:=lay_aft ho ks nmN
 obtain ⟨j3,e3⟩:=lay_aft ho ks nmM
 rw [h.i] at e1
 rw [h.n] at e2
 rw [h.m] at e3
 refine ⟨_,_,_,j1,j2,j3,⟨e1,e2,e3,fun s h1 h2 h3 => ?_⟩,rfl,rfl,rfl⟩
 obtain ⟨j,e⟩:=lay_aft ho ks s
 rw [e,h.oth s h1 h2 h3,stay_fz]; rfl
end
theorem Ext.cn {k:Nat} {A:List It} {L:LL} (h:Ext k A L):Cn (bA k A).a (bA k A).a (bA k A).b (bA k A).b (bA k A).m (bA k A).m L:=⟨h.i,h.n,h.m,h.oth⟩
theorem Cn.ext {k:Nat} {A:List It} {L:LL} (h:Cn (bA k A).a (bA k A).a (bA k A).b (bA k A).b (bA k A).m (bA k A).m L):Ext k A L:=⟨h.i,h.n,h.m,h.oth⟩
def Fi (p y:List UInt8):Prop:=p <+: y∧y.length≤600000
def Mi (m y:List UInt8):Prop:=y=m∨y=m++zer 64
def Wk (k:Nat) (A:List It) (L:LL):Prop := ∃ ia is na ns ma ms,Cn ia is na ns ma ms L∧(Fi (bA k A).a ia∧Fi (bA k A).a is)∧(Fi (bA k A).b na∧Fi (bA k A).b ns)∧Mi (bA k A).m ma∧Mi (bA k A).m ms
structure Smk (k:Nat) (A:List It):Prop where
 ok:OkA k A
 sz:(bA k A).a.length+(bA k A).b.length+(bA k A).m.length≤300000
theorem fi_refl {p:List UInt8} (h:p.length≤600000):Fi p p:=⟨List.prefix_rfl,h⟩
theorem fi_stay {p x y:List UInt8} (h1:Fi p x) (h2:Fi p y) (ks:List Bool) (j:Nat):Fi p (stay ks ⟨x,y⟩ j).1:=by
 refine ⟨stay_pre ks ⟨x,y⟩ j h1.1 h2.1,?_⟩
 rcases stay_lenS ks ⟨x,y⟩ j with h | h
 ·rw [h]; exact h1.2
 ·rw [h]; exact h2.2
theorem mi_tail {m y:List UInt8} (h:Mi m y) : ∃ t,y=m++t∧(t=[]∨t=zer 64):=by
 rcases h with rfl | rfl
 ·exact ⟨[],by rw [List.append_nil],.inl rfl⟩
 ·exact ⟨zer 64,rfl,.inr rfl⟩
theorem sec_tail {m t:List UInt8} {n:Nat} (hm:m.length=64 * n) (h:t=[]∨t=zer 64):sec (m++t) n=zer 64:=by
 rcases h with rfl | rfl
 ·rw [List.append_nil]; exact sec_out m n hm
 ·exact sec_end m _ n hm (zer_len 64)
theorem mi_stay {m x y:List UInt8} {n:Nat} (hm:m.length=64 * n) (h1:Mi m x) (h2:Mi m y) (ks:List Bool) (j:Nat):Mi m (stay ks ⟨x,y⟩ j).1:=by
 obtain ⟨t,rfl,ht⟩:=mi_tail h1
 obtain ⟨u,rfl,hu⟩:=mi_tail h2
 have lt:t=[]∨t.length=64:=ht.imp id (fun e=>by rw [e,zer_len])
 have lu:u=[]∨u.length=64:=hu.imp id (fun e=>by rw [e,zer_len])
 have:=stay_mark ks m t u n j hm lt lu
 rw [sec_tail hm ht,sec_tail hm hu] at this
 rcases this with h | h | h
 ·exact .inl h
 ·exact .inr h
 ·exact .inr h
theorem Wk.fall {k:Nat} {A:List It} {L:LL} (h:OkA k A) (hw:Wk k A L) (ho:Ord L) (ks:List Bool):Wk k A (layL (aft ks L 0)):=by
 obtain ⟨ia,is,na,ns,ma,ms,c,⟨i1,i2⟩,⟨n1,n2⟩,m1,m2⟩:=hw
 obtain ⟨x,y,z,j1,j2,j3,c',rfl,rfl,rfl⟩:=c.fall ho ks
 have a:=fi_stay i1 i2 ks j1
 have b:=fi_stay n1 n2 ks j2
 have d:=mi_stay h.lens.m m1 m2 ks j3
 exact ⟨_,_,_,_,_,_,c',⟨a,a⟩,⟨b,b⟩,d,d⟩
theorem Smk.wk {k:Nat} {A:List It} {L:LL} (h:Smk k A) (he:Ext k A L):Wk k A L:=by
 have:=h.sz
 exact ⟨_,_,_,_,_,_,he.cn,⟨fi_refl (by omega),fi_refl (by omega)⟩,⟨fi_refl (by omega),fi_refl (by omega)⟩,.inl rfl,.inl rfl⟩
def Un (k:Nat) (A:List It) (x:It) (L:LL):Prop:=Cn (bA k (A++[x])).a (bA k (A++[x])).a (bA k (A++[x])).b (bA k (A++[x])).b (bA k (A++[x])).m (bA k A).m L
theorem bm_snoc (k:Nat) (A:List It) (x:It):(bA k (A++[x])).m=(bA k A).m++mrk ((bA k A).mk' k x):=by rw [bA_snoc]; rfl
theorem Un.fall {k:Nat} {A:List It} {x:It} {L:LL} (h:Smk k (A++[x])) (hu:Un k A x L) (ho:Ord L) (ks:List Bool):Wk k A (layL (aft ks L 0))∨Wk k (A++[x]) (layL (aft ks L 0)):=by
 obtain ⟨a,b,c,j1,j2,j3,c',e1,e2,e3⟩:=Cn.fall hu ho ks
 rw [stay_sync] at e1 e2
 subst e1 e2
 have hp:=bA_pre k A [x]
 have hs:=h.sz
 have l:=h.ok.init.lens
 have l2:=h.ok.lens
 have hml:(mrk ((bA k A).mk' k x)).length=64:=by
  have:=l2.m
  rw [bm_snoc,List.length_append,l.m,List.length_append] at this
  simp only [List.length_cons,List.length_nil] at this
  omega
 have key:=stay_mark ks (bA k A).m (mrk ((bA k A).mk' k x)) [] A.length j3 l.m (.inr hml) (.inl rfl)
 rw [sec_end _ _ _ l.m hml,List.append_nil,sec_out _ _ l.m,← bm_snoc,← e3] at key
 have fa:Fi (bA k A).a (bA k (A++[x])).a:=⟨hp.1,by omega⟩
 have fb:Fi (bA k A).b (bA k (A++[x])).b:=⟨hp.2.1,by omega⟩
 have ga:Fi (bA k (A++[x])).a (bA k (A++[x])).a:=fi_refl (by omega)
 have gb:Fi (bA k (A++[x])).b (bA k (A++[x])).b:=fi_refl (by omega)
 rcases key with e | e | e
 ·exact .inl ⟨_,_,_,_,_,_,c',⟨fa,fa⟩,⟨fb,fb⟩,.inl e,.inl e⟩
 ·exact .inr ⟨_,_,_,_,_,_,c',⟨ga,ga⟩,⟨gb,gb⟩,.inl e,.inl e⟩
 ·exact .inl ⟨_,_,_,_,_,_,c',⟨fa,fa⟩,⟨fb,fb⟩,.inr e,.inr e⟩
def Gd (k:Nat) (A:List It) (X:Option It) (L:LL):Prop:=Wk k A L ∨ ∃ x,X=some x∧(Wk k (A++[x]) L∨Un k A x L)
structure SmX (k:Nat) (A:List It) (X:Option It):Prop where
 a:Smk k A
 x : ∀ x,X=some x→Smk k (A++[x])
theorem Gd.fall {k:Nat} {A:List It} {X:Option It} (h:SmX k A X) {L:LL} {ks:List Bool} (ho:Ord L) (hg:Gd k A X L):Gd k A X (layL (aft ks L 0)):=by
 rcases hg with hw | ⟨x,rfl,hw | hu⟩
 ·exact .inl (hw.fall h.a.ok ho ks)
 ·exact .inr ⟨x,rfl,.inl (hw.fall (h.x x rfl).ok ho ks)⟩
 ·rcases hu.fall (h.x x rfl) ho ks with e | e
  ·exact .inl e
  ·exact .inr ⟨x,rfl,.inl e⟩
end Go.Proofs.YtoblgjledefdbaaGreatDoor.St
