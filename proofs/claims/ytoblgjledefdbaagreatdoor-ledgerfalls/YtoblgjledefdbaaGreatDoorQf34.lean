/- Own work. -/
import Derived.Test.YtoblgjledefdbaaGreatDoorQf33
namespace Go.Proofs.YtoblgjledefdbaaGreatDoor
open Go.RowKit
attribute [local go_sem ↓] Go.wp_at_zero Go.wp_at_succ
def apD:St.DV→St.SV→List ByteArray→List ByteArray→St.DV×St.SV×List ByteArray×Nat×Int
 | D,S,L,[]=>(D,S,L,0,0)
 | D,S,L,x::xs=>if (aD D S L x).2.2.2=0 then
   ((apD (aD D S L x).1 (aD D S L x).2.1 (aD D S L x).2.2.1 xs).1,(apD (aD D S L x).1 (aD D S L x).2.1 (aD D S L x).2.2.1 xs).2.1,(apD (aD D S L x).1 (aD D S L x).2.1 (aD D S L x).2.2.1 xs).2.2.1,(apD (aD D S L x).1 (aD D S L x).2.1 (aD D S L x).2.2.1 xs).2.2.2.1+1,(apD (aD D S L x).1 (aD D S L x).2.1 (aD D S L x).2.2.1 xs).2.2.2.2)
  else ((aD D S L x).1,(aD D S L x).2.1,(aD D S L x).2.2.1,0,(aD D S L x).2.2.2)
def RmA:St.DV→St.SV→List ByteArray→List ByteArray→Prop
 | _,_,_,[]=>True
 | D,S,L,x::xs=>St.Rm 7 D∧((aD D S L x).2.2.2=0→RmA (aD D S L x).1 (aD D S L x).2.1 (aD D S L x).2.2.1 xs)
theorem aD_ends (D:St.DV) (S:St.SV) (L:List ByteArray) (x:ByteArray) (he:S.ends.length=L.length):(aD D S L x).2.1.ends.length=(aD D S L x).2.2.1.length∧(aD D S L x).2.1.k=S.k:=by
 unfold aD
 split
 ·exact ⟨he,rfl⟩
 ·split
  ·exact ⟨he,rfl⟩
  ·refine ⟨?_,addD_k ..⟩
   rcases addD_ends D S x.data.toList (mdL S.k L x) with ⟨e1,e2⟩ | ⟨e1,e2⟩
   ·simp only [e1,if_true,e2,List.length_append,List.length_cons,List.length_nil,he]
   ·simp only [if_neg e1,e2,he]
section
variable {w W:World} {a p:Nat} {U:Nat→Prop} {D D' D0:St.DV} {S S' S0:St.SV} {L L' L0:List ByteArray} {g:Int}
theorem LgM.cell {b i:Nat} {v:Value} (h:LgM w W g a p U D S L) (hc:w.cell? ⟨b,i,none⟩=some v) (hb : ¬ U b):W.cell? ⟨b,i,none⟩=some v:=by
 obtain ⟨U',h1,h2,h3⟩:=h
 exact (World.cell?_of_block (a:=⟨b,i,none⟩) (h3.block b (World.block_lt_of_cell? _ _ hc) hb)).trans hc
theorem LgM.rds {ao:Option Addr} {b off len:Nat} {xs:List ByteArray} (h:LgM w W g a p U D S L) (hr:RdS w ao b off len xs) (hb:0<len → ¬ U b):RdS W ao b off len xs :=
 ⟨hr.hl,hr.ptr,fun j v hv=>h.cell (hr.rng j v hv) (hb (by have:=(List.getElem?_eq_some_iff.1 hv).1; rw [List.length_map] at this; have:=hr.hl; omega)),hr.sz⟩
theorem LgM.tb (h:LgM w W g a p U D S L) (h0:Lg w g a p U D0 S0 L0) (ht:Tb w):Tb W:=by
 obtain ⟨U',h1,h2,h3⟩:=h
 obtain ⟨_,_,_,_,_,_,_,_,hn⟩:=h0
 exact ht.upo h3 hn
set_option maxRecDepth 100000 in
set_option maxHeartbeats 2000000 in
theorem appendC_any (w:World) (ht:Tb w) (h:Lg w 1 a p U D S L) (he:S.ends.length=L.length) (bi bl:Nat) (ao:Option Addr) (b len cap:Nat) (xs:List ByteArray) (hr:RdS w ao b 0 len xs) (hlen:len≤9223372036854775806)
  (ci:w.cell? ⟨bi,0,none⟩=some (.slice ao len cap)) (cl:w.cell? ⟨bl,0,none⟩=some (.pointer (some ⟨a,0,none⟩))) (n1 : ¬ U bi) (n2 : ¬ U bl) (n3:0<len → ¬ U b) (hR:RmA D S L xs) (n:Nat) (e0:Int) (hA:apD D S L xs=(D',S',L',n,e0)) :
  Calls Tryz.prog 48 #[.pointer (some ⟨bi,0,none⟩),.pointer (some ⟨bl,0,none⟩)] w fun e w'=>e = .returned (.tuple #[.int .i64 (n:Int),.int .i64 e0])∧LgM w w' 1 a p U D' S' L':=by
 have hll:=hr.hl
 have HC:Hid (∀ W Di Si Li,LgM w W 1 a p U Di Si Li→W.cell? ⟨bi,0,none⟩=some (.slice ao len cap)∧W.cell? ⟨bl,0,none⟩=some (.pointer (some ⟨a,0,none⟩))∧RdS W ao b 0 len xs):=fun W Di Si Li hW=>⟨hW.cell ci n1,hW.cell cl n2,hW.rds hr n3⟩
 have HA:Hid (∀ W Di Si Li x Dj Sj Lj ej,LgM w W 1 a p U Di Si Li→Si.ends.length=Li.length→St.Rm 7 Di→x.size≤9223372036854775807→aD Di Si Li x=(Dj,Sj,Lj,ej)→Calls Tryz.prog 49 #[.pointer (some ⟨a,0,none⟩),.string x] W fun e w'=>e = .returned (.int .i64 ej)∧LgM w w' 1 a p U Dj Sj Lj):=fun W Di Si Li x Dj Sj Lj ej hW g1 g2 g3 g4=>by
  obtain ⟨U1,y1,y2,y3⟩:=hW
  exact (add_any W (LgM.tb ⟨U1,y1,y2,y3⟩ h ht) a y1 g1 g2 x g3 ej g4).mono fun e w' z=>by
   obtain ⟨U2,z1,z2,z3⟩:=z.2
   exact ⟨z.1,U2,z1,fun y hy=>(z2 y hy).elim (y2 y) (fun e => .inr (Nat.le_trans y3.size e)),y3.trans z3 fun y _ ht=>(y2 y ht).elim id (fun e=>by omega)⟩
 have HM:=hide (LgM.of h (Below.refl _ _))
 have HQ:=hide (And.intro he (And.intro hR hA))
 have hptr:=hr.ptr
 clear h he hR hA hr n1 n2 n3
 go_enter Tryz.func48,Tryz.ntmps48
 go_wp2
 go_loopg [9] len (fun g x wr => ∃ (j m:Nat) (Di:St.DV) (Si:St.SV) (Li:List ByteArray),j≤len∧g=len - j∧x = .int .i64 (j:Int)∧Hid (LgM w wr 1 a p U Di Si Li)∧Hid (Si.ends.length=Li.length∧RmA Di Si Li (xs.drop j)∧apD Di Si Li (xs.drop j)=(D',S',L',m,e0)∧j+m=n))
 case atStart =>
  go_light
  exact ⟨0,n,D,S,L,Nat.zero_le _,rfl,rfl,HM,HQ.out.1,HQ.out.2.1,HQ.out.2.2,Nat.zero_add _⟩
 case round =>
  clear HM HQ ci cl
  obtain ⟨j,m,Di,Si,Li,hj,rfl,rfl,HM,HQ⟩:=hrel
  obtain ⟨ci,cl,hr⟩:=HC.out wr Di Si Li HM.out
  by_cases hlt:j<len
  ·have hzj:(j:Int)<(len:Int):=by omega
   obtain rfl:=hptr (by omega)
   obtain ⟨x,hx⟩ : ∃ x,xs.getD j ByteArray.empty=x:=⟨_,rfl⟩
   have c0:=hr.at hlt
   rw [hx,Nat.zero_add] at c0
   obtain ⟨q1,q2,q3,q4⟩:=HQ.out
   have hd:xs.drop j=x::xs.drop (j+1):=by
    rw [List.drop_eq_getElem_cons (by omega),← hx,List.getD_eq_getElem?_getD,List.getElem?_eq_getElem (by omega)]; rfl
   rw [hd] at q2 q3
   have hxs:x.size≤9223372036854775807:=hr.sz x (by rw [← hx,List.getD_eq_getElem?_getD,List.getElem?_eq_getElem (by omega)]; exact List.getElem_mem _)
   obtain ⟨Dj,Sj,Lj,ej,hj4⟩ : ∃ Dj Sj Lj ej,aD Di Si Li x=(Dj,Sj,Lj,ej):=⟨_,_,_,_,rfl⟩
   have ha:=aD_ends Di Si Li x q1
   rw [hj4] at ha
   have HAd:=hide (HA.out wr Di Si Li x Dj Sj Lj ej HM.out q1 q2.1 hxs hj4)
   unfold RmA at q2
   unfold apD at q3
   rw [hj4] at q2 q3
   have ew3:IntKind.i64.wrap ((j:Int)+1)=((j+1:Nat):Int):=by rw [IntKind.wrap_i64]; omega
   by_cases h0:ej=0
   ·subst h0
    simp only [if_true] at q3
    obtain ⟨m',hm'⟩ : ∃ m',m=m'+1:=by
     injection q3 with _ q3; injection q3 with _ q3; injection q3 with _ q3; injection q3 with q3 _
     exact ⟨_,q3.symm⟩
    subst hm'
    have HN:Hid (Sj.ends.length=Lj.length∧RmA Dj Sj Lj (xs.drop (j+1))∧apD Dj Sj Lj (xs.drop (j+1))=(D',S',L',m',e0)∧(j+1)+m'=n):=by
     refine ⟨ha.1,q2.2 rfl,?_,by omega⟩
     generalize apD Dj Sj Lj (xs.drop (j+1))=y at q3
     obtain ⟨y1,y2,y3,y4,y5⟩:=y
     injection q3 with e1 q3; injection q3 with e2 q3; injection q3 with e3 q3; injection q3 with e4 q3
     simp only at e1 e2 e3 e4 q3
     rw [e1,e2,e3,q3,show y4=m' by omega]
    clear q1 q2 q3 q4 hd hx hxs hj4 ha HQ HM HA hr hll
    go_wp2_with (go_at_call 49; (with_reducible refine HAd.out.mono ?_); rintro e w2 ⟨rfl,t2⟩)
    go_roundg (len - (j+1))
    case rel =>
     go_light
     exact ⟨j+1,m',Dj,Sj,Lj,by omega,rfl,rfl,t2,HN⟩
    case measure=>go_light; omega
   ·simp only [if_neg h0] at q3
    obtain ⟨rfl,rfl,rfl,rfl,rfl⟩:Dj=D'∧Sj=S'∧Lj=L'∧0=m∧ej=e0:=by injection q3 with e1 q3; injection q3 with e2 q3; injection q3 with e3 q3; injection q3 with e4 q3; exact ⟨e1,e2,e3,e4,q3⟩
    have h0b:(ej == 0)=false:=by simpa using h0
    obtain rfl:j=n:=by omega
    clear q1 q2 q3 q4 hd hx hxs hj4 ha HQ HM HA hr hll HC
    go_wp2_with (go_at_call 49; (with_reducible refine HAd.out.mono ?_); rintro e w2 ⟨rfl,t2⟩)
    go_ret2
    exact ⟨rfl,t2⟩
  ·have hzj : ¬ (j:Int)<(len:Int):=by omega
   obtain rfl:j=len:=by omega
   obtain ⟨q1,q2,q3,q4⟩:=HQ.out
   rw [← hll,List.drop_length] at q3
   obtain ⟨rfl,rfl,rfl,rfl,rfl⟩:Di=D'∧Si=S'∧Li=L'∧0=m∧0=e0:=by injection q3 with e1 q3; injection q3 with e2 q3; injection q3 with e3 q3; injection q3 with e4 q3; exact ⟨e1,e2,e3,e4,q3⟩
   obtain rfl:j=n:=by omega
   clear q1 q2 q3 q4 HQ HA hr hll HC
   go_wp2
   go_ret2
   exact ⟨rfl,HM.out⟩
end
section
variable {w W W1:World} {a p:Nat} {U:Nat→Prop} {D D':St.DV} {S S':St.SV} {L L':List ByteArray} {g:Int}
theorem LgM.whole (h:Lg w 0 a p U D S L) (hb:Below w.heap.size w W) (hm:LgM (W.setCell ⟨a,0,none⟩ (.int .i32 1)) W1 1 a p U D' S' L'):LgM w (W1.setCell ⟨a,0,none⟩ (.int .i32 0)) 0 a p U D' S' L':=by
 obtain ⟨U',h1,h2,h3⟩:=hm
 have q1:St.Upo U w (W.setCell ⟨a,0,none⟩ (.int .i32 1)):=(St.Upo.of hb).set a 0 _ (.inl h.own)
 have hz:(W.setCell ⟨a,0,none⟩ (.int .i32 1)).heap.size=W.heap.size:=by simp
 refine ⟨U',h1.set 0,fun x hx=>(h2 x hx).imp id (fun e => ?_),(q1.trans h3 fun _ _ e=>e).set a 0 _ (.inl h.own)⟩
 have:=hb.size
 omega
theorem Lg.inn (h:Lg w 1 a p U D S L):w.cell? ⟨a,0,none⟩=some (.int .i32 1)∧w.frozen? ⟨a,0,none⟩=false:=by
 obtain ⟨q,m,r,vs,h1,_⟩:=h.row
 obtain ⟨c,_,_,_,_,f⟩:=rwL_at h1
 exact ⟨c,f 0⟩
theorem LgM.inn (h:LgM w W 1 a p U D S L):W.cell? ⟨a,0,none⟩=some (.int .i32 1)∧W.frozen? ⟨a,0,none⟩=false:=by
 obtain ⟨U',h1,_⟩:=h
 exact h1.inn
set_option maxRecDepth 100000 in
set_option maxHeartbeats 2000000 in
theorem lappend_any (w:World) (ht:Tb w) (h:Lg w 0 a p U D S L) (he:S.ends.length=L.length) (ao:Option Addr) (b len cap:Nat) (xs:List ByteArray) (hr:RdS w ao b 0 len xs) (hlen:len≤9223372036854775806) (n3:0<len → ¬ U b) (hR:RmA D S L xs) (n:Nat) (e0:Int) (hA:apD D S L xs=(D',S',L',n,e0)) :
  Calls Tryz.prog 14 #[.pointer (some ⟨a,0,none⟩),.slice ao len cap] w fun e w'=>e = .returned (.tuple #[.int .i64 (n:Int),.int .i64 e0])∧LgM w w' 0 a p U D' S' L':=by
 obtain ⟨w1,hw1⟩ : ∃ W,(w.alloc (.cells #[.pointer (some ⟨a,0,none⟩)] 27)).alloc (.cells #[.slice ao len cap] 22)=W:=⟨_,rfl⟩
 have u1:Below w.heap.size w w1:=by rw [← hw1]; exact bal (bal (Below.refl _ _) _) _
 have k0:w1.heap[w.heap.size]? = some (.cells #[.pointer (some ⟨a,0,none⟩)] 27 (0,0)):=by rw [← hw1]; exact St.new0 _ _ _
 have k1:w1.heap[w.heap.size+1]? = some (.cells #[.slice ao len cap] 22 (0,0)):=by rw [← hw1]; exact St.new2 _ _ _
 have h1:=h.next u1
 obtain ⟨q,m,r,vs,hrow,_⟩:=h1.row
 obtain ⟨c0,c2,_,_,_,cf⟩:=rwL_at hrow
 have hax:=h.lt h.own
 have hset : ∀ b,b≠a→(w1.setCell ⟨a,0,none⟩ (.int .i32 1)).heap[b]? = w1.heap[b]? := fun b hb=>Below.heap_setCell _ _ _ _ hb
 have hnU : ∀ b,w.heap.size≤b → ¬ U b:=fun b hb hu=>by have:=h.lt hu; omega
 have HW:Hid (Calls Tryz.prog 47 #[.pointer (some ⟨a,0,none⟩),.func (.func 48) #[] #[.pointer (some ⟨w.heap.size+1,0,none⟩),.pointer (some ⟨w.heap.size,0,none⟩)]] w1 fun e w'=>e = .returned (.tuple #[.int .i64 (n:Int),.int .i64 e0])∧LgM w w' 0 a p U D' S' L'):=by
  refine (wholeI_any w1 a q _ _ (.inl rfl) c0 (cf 0) c2 (fun x y W=>x = .int .i64 (n:Int)∧y = .int .i64 e0∧LgM (w1.setCell ⟨a,0,none⟩ (.int .i32 1)) W 1 a p U D' S' L') ?_).mono fun e w' z => ?_
  ·have t1:Tb (w1.setCell ⟨a,0,none⟩ (.int .i32 1)):=(ht.next u1).upo (U:=U) ((St.Upo.refl U w1).set a 0 _ (.inl h.own)) (by obtain ⟨_,_,_,_,_,_,_,_,hn⟩:=h; exact hn)
   have hx:=hr.hl
   refine (appendC_any (w1.setCell ⟨a,0,none⟩ (.int .i32 1)) t1 (h1.set 1) he (w.heap.size+1) w.heap.size ao b len cap xs ⟨hr.hl,hr.ptr,fun j v hv => ?_,hr.sz⟩ hlen ?_ ?_ (hnU _ (by omega)) (hnU _ (by omega)) n3 hR n e0 hA).mono fun e w' z => ?_
   ·have hc:=hr.rng j v hv
    have hlt:=World.block_lt_of_cell? _ _ hc
    have hbU : ¬ U b:=n3 (by have:=(List.getElem?_eq_some_iff.1 hv).1; rw [List.length_map] at this; omega)
    have hba:b≠a:=fun e=>hbU (e ▸ h.own)
    exact (World.cell?_of_block (a:=⟨b,0+j,none⟩) ((hset b hba).trans (u1.block b hlt))).trans hc
   ·rw [cell_of_row _ (w.heap.size+1) 0 _ _ (0,0) ((hset _ (by omega)).trans k1)]; rfl
   ·rw [cell_of_row _ w.heap.size 0 _ _ (0,0) ((hset _ (by omega)).trans k0)]; rfl
   ·exact ⟨_,_,z.1,z.2.inn.1,z.2.inn.2,rfl,rfl,z.2⟩
  ·obtain ⟨x,y,w2,rfl,⟨rfl,rfl,z2⟩,rfl⟩:=z
   exact ⟨rfl,LgM.whole h u1 z2⟩
 have b0:w1.cell? ⟨w.heap.size,0,none⟩=some (.pointer (some ⟨a,0,none⟩)):=by rw [cell_of_row _ _ 0 _ _ (0,0) k0]; rfl
 clear ht h he hr hR hA h1 k1 hrow c0 c2 cf hset hnU n3 u1 k0
 have HW1:=hide hw1
 clear hw1
 go_enter Tryz.func14,Tryz.ntmps14
 go_upto_region 1 with (fail)
 rw [HW1.out]
 go_wp2_with (go_at_call 47; (with_reducible refine HW.out.mono ?_); rintro e w2 ⟨rfl,t2⟩)
 go_ret2
 exact ⟨rfl,t2⟩
end
def gtD (D:St.DV) (S:St.SV) (L:List ByteArray) (i:Nat):ByteArray×Int :=
 if (St.itmD D S i).2≠0 then (⟨#[]⟩,(St.itmD D S i).2) else if sm (St.tx (St.itmD D S i).1)=(smL L).getD i ByteArray.empty then (St.tx (St.itmD D S i).1,0) else (⟨#[]⟩,190)
theorem itm_sz {D:St.DV} {S:St.SV} {i:Nat} : (St.itmD D S i).1.length≤1048576:=by
 unfold St.itmD
 split
 ·exact Nat.zero_le _
 ·split
  ·exact Nat.zero_le _
  ·split
   ·cases h:St.Rc.rpay (St.itmR D S i).1 with
    | none=>exact Nat.zero_le _
    | some x=>exact (St.Rc.rpay_len h).1
   ·exact Nat.zero_le _
theorem itm_in {D:St.DV} {S:St.SV} {i:Nat} (h:(St.itmD D S i).2=0):i<S.ends.length:=by
 unfold St.itmD at h
 by_cases e:S.ends.length≤i
 ·rw [if_pos e] at h; cases h
 ·omega
section
variable {w W w1:World} {a p:Nat} {U:Nat→Prop} {D D':St.DV} {S S':St.SV} {L L':List ByteArray} {g:Int}
theorem Lkd.cell {b i:Nat} {v:Value} (h:Lkd a w W) (hc:w.cell? ⟨b,i,none⟩=some v) (hb:b≠a):W.cell? ⟨b,i,none⟩=some v :=
 (World.cell?_of_block (a:=⟨b,i,none⟩) (h.oth b (World.block_lt_of_cell? _ _ hc) hb)).trans hc
theorem Tb.lkd (ht:Tb w) (h:Lg w 0 a p U D S L) (hL:Lkd a w W):Tb W:=by
 refine ht.upo (U:=U) ⟨hL.os,hL.tape,hL.output,hL.size,fun b hb hn=>hL.oth b hb (fun e=>hn (e ▸ h.own))⟩ ?_
 obtain ⟨_,_,_,_,_,_,_,_,hn⟩:=h
 exact hn
set_option maxRecDepth 100000 in
theorem sizeC_any (w:World) (h:Lg w 1 a p U D S L) (bl:Nat) (cl:w.cell? ⟨bl,0,none⟩=some (.pointer (some ⟨a,0,none⟩))) (n:Nat) (hn:S.ends.length=n) :
  Calls Tryz.prog 73 #[.pointer (some ⟨bl,0,none⟩)] w fun e w'=>e = .returned (.tuple #[.int .u64 (n:Int),.int .i64 0])∧Below w.heap.size w w':=by
 obtain ⟨q,T,c2,hs⟩:=h.sk
 subst hn
 have HS:Hid (Calls Tryz.prog 74 #[.pointer (some ⟨q,0,none⟩)] w fun e w'=>e = .returned (.int .u64 (S.ends.length:Int))∧w=w'):=(St.fsize_any w hs).mono fun e w' z=>⟨z.1,z.2.symm⟩
 clear h hs
 go_enter Tryz.func73,Tryz.ntmps73
 go_wp2_with (go_at_call 74; (with_reducible refine HS.out.mono ?_); rintro e w1 ⟨rfl,rfl⟩)
 go_ret2
 exact ⟨rfl,Below.refl _ _⟩
set_option maxRecDepth 100000 in
theorem lsize_any (w:World) (h:Lg w 0 a p U D S L) (n:Nat) (hn:S.ends.length=n) :
  Calls Tryz.prog 33 #[.pointer (some ⟨a,0,none⟩)] w fun e w'=>e = .returned (.tuple #[.int .u64 (n:Int),.int .i64 0])∧Below w.heap.size w w':=by
 obtain ⟨w1,hw1⟩ : ∃ W,w.alloc (.cells #[.pointer (some ⟨a,0,none⟩)] 27)=W:=⟨_,rfl⟩
 have u1:Below w.heap.size w w1:=by rw [← hw1]; exact bal (Below.refl _ _) _
 have k0:w1.heap[w.heap.size]? = some (.cells #[.pointer (some ⟨a,0,none⟩)] 27 (0,0)):=by rw [← hw1]; exact heap_alloc_new w _
 have b0:w1.cell? ⟨w.heap.size,0,none⟩=some (.pointer (some ⟨a,0,none⟩)):=by rw [cell_of_row _ _ 0 _ _ (0,0) k0]; rfl
 have h1:=h.next u1
 obtain ⟨q,m,r,vs,hrow,_⟩:=h1.row
 have hne:w.heap.size≠a:=fun e=>by have:=h.lt h.own; omega
 have HW:Hid (Calls Tryz.prog 72 #[.pointer (some ⟨a,0,none⟩),.func (.func 73) #[] #[.pointer (some ⟨w.heap.size,0,none⟩)]] w1 fun e w'=>e = .returned (.tuple #[.int .u64 (n:Int),.int .i64 0])∧Below w.heap.size w w') :=
  (wholeU_any w1 a _ _ _ rfl hrow _ _ fun W hW=>sizeC_any W (h1.lkd hW) w.heap.size (hW.cell b0 hne) n hn).mono fun e w' z=>⟨z.1,bnext u1 z.2⟩
 clear h h1 hrow u1 k0 hne hn
 have HW1:=hide hw1
 clear hw1
 go_enter Tryz.func33,Tryz.ntmps33
 go_upto_region 1 with (fail)
 rw [HW1.out]
 go_wp2_with (go_at_call 72; (with_reducible refine HW.out.mono ?_); rintro e w2 ⟨rfl,t2⟩)
 go_ret2
 exact ⟨rfl,t2⟩
set_option maxRecDepth 100000 in
set_option maxHeartbeats 2000000 in
theorem getC_any (w:World) (ht:Tb w) (h:Lg w 1 a p U D S L) (he:S.ends.length=L.length) (bl bi:Nat) (cl:w.cell? ⟨bl,0,none⟩=some (.pointer (some ⟨a,0,none⟩))) (i:Nat) (hi:i<18446744073709551616) (ci:w.cell? ⟨bi,0,none⟩=some (.int .u64 (i:Int))) (t:ByteArray) (e0:Int) (hg:gtD D S L i=(t,e0)) :
  Calls Tryz.prog 83 #[.pointer (some ⟨bl,0,none⟩),.pointer (some ⟨bi,0,none⟩)] w fun e w'=>e = .returned (.tuple #[.string t,.int .i64 e0])∧Below w.heap.size w w':=by
 obtain ⟨q,T,c2,hs⟩:=h.sk
 obtain ⟨_,_,_,vs,hrow,_,hown⟩:=h.row
 obtain ⟨_,_,_,_,c5,_⟩:=rwL_at hrow
 obtain ⟨x,hx⟩ : ∃ x,St.tx (St.itmD D S i).1=x:=⟨_,rfl⟩
 obtain ⟨y,hy⟩ : ∃ y,(St.itmD D S i).2=y:=⟨_,rfl⟩
 have hxs:x.size≤1048576:=by rw [← hx,St.tx_size]; exact itm_sz
 have hin:=itm_in (D:=D) (S:=S) (i:=i)
 unfold gtD at hg
 rw [hx,hy] at hg
 rw [hy] at hin
 obtain ⟨s,hsx⟩ : ∃ s,sm x=s:=⟨_,rfl⟩
 rw [hsx] at hg
 have HI:Hid (∀ W,Below w.heap.size w W→Calls Tryz.prog 84 #[.pointer (some ⟨q,0,none⟩),.int .u64 (i:Int)] W fun e w'=>e = .returned (.tuple #[.string x,.int .i64 y])∧Below w.heap.size w w'):=fun W hW=>(St.item_any W (hs.next hW) i hi x y hx hy).mono fun e w' z=>⟨z.1,bnext hW z.2⟩
 have HSm:Hid (∀ W,Below w.heap.size w W→Calls Tryz.prog 85 #[.string x] W fun e w'=>e = .returned (.string s)∧Below w.heap.size w w'):=fun W hW=>(sumof_any W (ht.next hW) x hxs s hsx).mono fun e w' z=>⟨z.1,bnext hW z.2⟩
 have hax:=World.block_lt_of_cell? _ _ c2
 have hl:=World.block_lt_of_cell? _ _ cl
 have hb:=World.block_lt_of_cell? _ _ ci
 have HC:Hid (∀ W,Below w.heap.size w W→W.cell? ⟨bl,0,none⟩=some (.pointer (some ⟨a,0,none⟩))∧W.cell? ⟨a,2,none⟩=some (.pointer (some ⟨q,0,none⟩))∧W.cell? ⟨bi,0,none⟩=some (.int .u64 (i:Int))):=fun W hW=>⟨(hW.cell (p:=⟨bl,0,none⟩) hl).trans cl,(hW.cell (p:=⟨a,2,none⟩) hax).trans c2,(hW.cell (p:=⟨bi,0,none⟩) hb).trans ci⟩
 obtain ⟨ao,bs,cap,rfl,hrs,_,_⟩:=owns_rds hown (fun z hz=>by
  obtain ⟨y,_,rfl⟩:=List.mem_map.1 hz
  rw [sm_size]; decide)
 have hsl:(smL L).length=L.length:=by simp [smL]
 have HV:Hid (∀ W,Below w.heap.size w W→W.cell? ⟨bl,0,none⟩=some (.pointer (some ⟨a,0,none⟩))∧W.cell? ⟨a,5,none⟩=some (.slice ao (smL L).length cap)∧W.cell? ⟨bi,0,none⟩=some (.int .u64 (i:Int))∧(y=0→ao=some ⟨bs,0,none⟩∧i<(smL L).length∧W.cell? ⟨bs,i,none⟩=some (.string ((smL L).getD i ByteArray.empty)))):=fun W hW =>
  ⟨(HC.out W hW).1,(hW.cell (p:=⟨a,5,none⟩) hax).trans c5,(HC.out W hW).2.2,fun h0=>by
   have hlt:i<(smL L).length:=by have:=hin h0; omega
   have:=(hrs.next hW (Nat.le_refl _)).at hlt
   rw [Nat.zero_add] at this
   exact ⟨hrs.ptr (by omega),hlt,this⟩⟩
 obtain ⟨c6,c7,c8⟩:=HC.out w (Below.refl _ _)
 have u:Below w.heap.size w w.drew:=(Below.refl _ _).drew
 clear h hs hrow hown c5 c2 hx hy hxs ht cl ci hax hl hb hrs hin he hsx
 go_enter Tryz.func83,Tryz.ntmps83
 go_upto_region 1 with (fail)
 go_region_held3 (fun Z=>Z.cell? ⟨bl,0,none⟩=some (.pointer (some ⟨a,0,none⟩))∧Z.cell? ⟨a,2,none⟩=some (.pointer (some ⟨q,0,none⟩))∧Z.cell? ⟨bi,0,none⟩=some (.int .u64 (i:Int))) (first | assumption | (with_reducible exact HC.out _ u)) (first
  | (go_at_call 84; (with_reducible refine (HI.out _ u).mono ?_); rintro e w1 ⟨rfl,u⟩))
 all_goals
  by_cases h0:y=0
  ·subst h0
   obtain ⟨v1,v2,v3,v4⟩:=HV.out _ u
   obtain ⟨rfl,v5,v6⟩:=v4 rfl
   obtain ⟨z,hz⟩ : ∃ z,(smL L).getD i ByteArray.empty=z:=⟨_,rfl⟩
   rw [hz] at v6 hg HV
   have hg:=hide hg
   have HV2:Hid (∀ W,Below w.heap.size w W→W.cell? ⟨bl,0,none⟩=some (.pointer (some ⟨a,0,none⟩))∧W.cell? ⟨a,5,none⟩=some (.slice (some ⟨bs,0,none⟩) (smL L).length cap)∧W.cell? ⟨bi,0,none⟩=some (.int .u64 (i:Int))∧W.cell? ⟨bs,i,none⟩=some (.string z)):=fun W hW=>by
    obtain ⟨a1,a2,a3,a4⟩:=HV.out W hW
    exact ⟨a1,a2,a3,(a4 rfl).2.2⟩
   have hii:(i:Int)<((smL L).length:Int):=by omega
   obtain ⟨n,hn⟩ : ∃ n,(smL L).length=n:=⟨_,rfl⟩
   rw [hn] at v2 HV2 hii
   clear HV hz HI HC c6 c7 c8 v4 hn hsl
   replace u:Below w.heap.size w w1.drew:=u.drew
   go_upto_region 4 with (fail)
   go_region_held3 (fun Z=>Z.cell? ⟨bl,0,none⟩=some (.pointer (some ⟨a,0,none⟩))∧Z.cell? ⟨a,5,none⟩=some (.slice (some ⟨bs,0,none⟩) n cap)∧Z.cell? ⟨bi,0,none⟩=some (.int .u64 (i:Int))∧Z.cell? ⟨bs,i,none⟩=some (.string z)) (first | assumption | (with_reducible exact HV2.out _ u)) (first
    | (go_at_call 85; (with_reducible refine (HSm.out _ u).mono ?_); rintro e w2 ⟨rfl,u⟩))
   all_goals
    have hg:=hg.out
    rw [if_neg (fun q=>q rfl)] at hg
    by_cases h1:s=z
    ·subst h1
     rw [if_pos rfl] at hg
     injection hg with e1 e2
     subst e1 e2
     rw [show (!(s.toList == s.toList))=false by simp]
     clear HV2 HSm v1 v2 v3 v6
     go_wp2
     go_ret2
     exact ⟨rfl,u⟩
    ·rw [if_neg h1] at hg
     injection hg with e1 e2
     subst e1 e2
     rw [show (!(s.toList == z.toList))=true by rw [bne_text h1]; rfl]
     clear HV2 HSm v1 v2 v3 v6 h1
     go_wp2
     go_ret2
     exact ⟨rfl,u⟩
  ·rw [if_pos h0] at hg
   injection hg with e1 e2
   subst e1 e2
   have h0b:(y == 0)=false:=by simpa using h0
   clear HV HC HSm HI
   go_wp2
   go_ret2
   exact ⟨rfl,u⟩
set_option maxRecDepth 100000 in
theorem lget_any (w:World) (ht:Tb w) (h:Lg w 0 a p U D S L) (he:S.ends.length=L.length) (i:Nat) (hi:i<18446744073709551616) (t:ByteArray) (e0:Int) (hg:gtD D S L i=(t,e0)) :
  Calls Tryz.prog 39 #[.pointer (some ⟨a,0,none⟩),.int .u64 (i:Int)] w fun e w'=>e = .returned (.tuple #[.string t,.int .i64 e0])∧Below w.heap.size w w':=by
 obtain ⟨w1,hw1⟩ : ∃ W,(w.alloc (.cells #[.pointer (some ⟨a,0,none⟩)] 27)).alloc (.cells #[.int .u64 (i:Int)] 48)=W:=⟨_,rfl⟩
 have u1:Below w.heap.size w w1:=by rw [← hw1]; exact bal (bal (Below.refl _ _) _) _
 have k0:w1.heap[w.heap.size]? = some (.cells #[.pointer (some ⟨a,0,none⟩)] 27 (0,0)):=by rw [← hw1]; exact St.new0 _ _ _
 have k1:w1.heap[w.heap.size+1]? = some (.cells #[.int .u64 (i:Int)] 48 (0,0)):=by rw [← hw1]; exact St.new2 _ _ _
 have b0:w1.cell? ⟨w.heap.size,0,none⟩=some (.pointer (some ⟨a,0,none⟩)):=by rw [cell_of_row _ _ 0 _ _ (0,0) k0]; rfl
 have b1:w1.cell? ⟨w.heap.size+1,0,none⟩=some (.int .u64 (i:Int)):=by rw [cell_of_row _ _ 0 _ _ (0,0) k1]; rfl
 have h1:=h.next u1
 obtain ⟨q,m,r,vs,hrow,_⟩:=h1.row
 have hax:=h.lt h.own
 have HW:Hid (Calls Tryz.prog 75 #[.pointer (some ⟨a,0,none⟩),.func (.func 83) #[] #[.pointer (some ⟨w.heap.size,0,none⟩),.pointer (some ⟨w.heap.size+1,0,none⟩)]] w1 fun e w'=>e = .returned (.tuple #[.string t,.int .i64 e0])∧Below w.heap.size w w') :=
  (wholeS_any w1 a _ _ _ (.inl rfl) hrow _ _ fun W hW=>getC_any W ((ht.next u1).lkd h1 hW) (h1.lkd hW) he w.heap.size (w.heap.size+1) (hW.cell b0 (by omega)) i hi (hW.cell b1 (by omega)) t e0 hg).mono fun e w' z=>⟨z.1,bnext u1 z.2⟩
 clear ht h h1 hrow u1 k0 k1 hg b1 hax
 have HW1:=hide hw1
 clear hw1
 go_enter Tryz.func39,Tryz.ntmps39
 go_upto_region 1 with (fail)
 rw [HW1.out]
 go_wp2_with (go_at_call 75; (with_reducible refine HW.out.mono ?_); rintro e w2 ⟨rfl,t2⟩)
 go_ret2
 exact ⟨rfl,t2⟩
end
end Go.Proofs.YtoblgjledefdbaaGreatDoor
