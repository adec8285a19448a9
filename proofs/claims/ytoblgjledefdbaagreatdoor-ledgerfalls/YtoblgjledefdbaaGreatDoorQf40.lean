/- Own work. -/
import Derived.BigQuiet
import Derived.Test.YtoblgjledefdbaaGreatDoorQf39
namespace Go.Proofs.YtoblgjledefdbaaGreatDoor
open Go.RowKit
attribute [local go_sem ↓] Go.wp_at_zero Go.wp_at_succ
theorem tmod_two {n m:Int} (h1:1≤m):Int.tmod (Int.tmod n m+m) m=n % m:=by
 have h2:=Int.tmod_lt_of_pos n (by omega:0<m)
 have h3 : -m<Int.tmod n m:=Int.lt_tmod_of_pos n (by omega)
 rw [Int.tmod_eq_emod_of_nonneg (by omega),Int.add_emod_right]
 have h4:=Int.mul_tdiv_add_tmod n m
 conv=>rhs; rw [← h4]
 rw [Int.mul_add_emod_self_left]
theorem lrest_any (w:World) (n m:Int) (h1:1≤m) (h2:m≤100) (r:Int) (hr:n % m=r) :
  Calls Tryz.prog 13 #[.int .i64 n,.int .i64 m] w fun e w'=>e = .returned (.int .i64 r)∧w=w':=by
 obtain ⟨u,hu⟩ : ∃ u,Int.tmod n m=u:=⟨_,rfl⟩
 have h3:=tmod_two (n:=n) h1
 have h4:=Int.tmod_lt_of_pos n (by omega:0<m)
 have h5 : -m<Int.tmod n m:=Int.lt_tmod_of_pos n (by omega)
 rw [hu] at h3 h4 h5
 rw [hr] at h3
 have hw:IntKind.i64.wrap (u+m)=u+m:=by rw [IntKind.wrap_i64]; omega
 obtain ⟨v,hv⟩ : ∃ v,u+m=v:=⟨_,rfl⟩
 rw [hv] at h3 hw
 have hw1:IntKind.i64.wrap u=u:=by rw [IntKind.wrap_i64]; omega
 have hw2:IntKind.i64.wrap r=r:=by
  have:=Int.emod_nonneg n (by omega:m≠0)
  have:=Int.emod_lt_of_pos n (by omega:0<m)
  rw [IntKind.wrap_i64]; omega
 have hm : ¬ m=0:=by omega
 have hmb:(m == 0)=false:=by simpa using hm
 clear h4 h5 hr h1 h2
 go_enter Tryz.func13,Tryz.ntmps13
 go_wp2
 go_ret
 exact ⟨rfl,rfl⟩
set_option maxRecDepth 100000 in
theorem lsize_nil (w:World):Calls Tryz.prog 33 #[.pointer none] w fun e w'=>e = .returned (.tuple #[.int .u64 0,.int .i64 200])∧Below w.heap.size w w':=by
 have HW:Hid (∀ W f,Calls Tryz.prog 72 #[.pointer none,f] W fun e w'=>e = .returned (.tuple #[.int .u64 0,.int .i64 200])∧W=w'):=fun W f=>(wholeU_nil W f).mono fun e w' z=>⟨z.1,z.2.symm⟩
 have u1:=bal (Below.refl w.heap.size w) (.cells #[.pointer none] 27)
 go_enter Tryz.func33,Tryz.ntmps33
 go_wp2_with (go_at_call 72; (with_reducible refine (HW.out _ _).mono ?_); rintro e w2 ⟨rfl,rfl⟩)
 go_ret2
 exact ⟨rfl,u1⟩
theorem itL_a {k c:Nat} : ∀ (L:List ByteArray),(∀ s∈L,s.size≤c)→(St.bA k (itL k L)).a.length≤(c+8) * L.length:=by
 intro L
 refine St.rev_ind (P:=fun L=>(∀ s∈L,s.size≤c)→(St.bA k (itL k L)).a.length≤(c+8) * L.length) (fun _=>by simp [itL,St.bA,St.BV.z]) (fun L x ih h => ?_) L
 have h1:=ih fun y hy=>h y (List.mem_append_left _ hy)
 have h2:=h x (by simp)
 rw [itL_snoc,St.bA_snoc]
 show ((St.bA k (itL k L)).a++St.Rc.pay x.data.toList).length≤_
 rw [List.length_append,St.Rc.pay_len,List.length_append,List.length_singleton,Nat.mul_add,Nat.mul_one]
 have:x.data.toList.length=x.size:=by simp
 omega
theorem itL_fits {k c:Nat} (h1:1≤k) (h2:k≤32) (hc:c≤1048576) {L:List ByteArray} (hf:L.length≤65536) (hs : ∀ s∈L,s.size≤c):(St.bA k (itL k L)).a.length+(St.bA k (itL k L)).b.length+(St.bA k (itL k L)).m.length≤(c+152) * L.length:=by
 have l:=(itL_ok h1 h2 hf (fun s h=>Nat.le_trans (hs s h) hc)).lens
 have a:=itL_a (k:=k) L hs
 have n:=St.nn_le L.length
 have b:=l.b
 have m:=l.m
 rw [itL_len] at b m
 rw [Nat.add_mul] at a ⊢
 omega
theorem a_qt {k R:Nat} {L:List ByteArray} {x:ByteArray} {D:St.DV} (h1:1≤k) (h2:k≤32) (hf:L.length<65536) (hs : ∀ s∈L++[x],s.size≤1048576) (hq:St.Qt R D) (he:St.Ext k (itL k L) D.L) (hR:(St.bA k (itL k (L++[x]))).a.length+(St.bA k (itL k (L++[x]))).b.length+(St.bA k (itL k (L++[x]))).m.length≤R) (hz:R≤268435456) :
  ∃ D',aD D (St.sA k (itL k L)) L x=(D',St.sA k (itL k (L++[x])),L++[x],0)∧St.Qt R D'∧St.Ext k (itL k (L++[x])) D'.L∧D'.acts=D.acts+6:=by
 have hok:=itL_ok h1 h2 (L:=L++[x]) (by rw [List.length_append,List.length_singleton]; omega) hs
 have hok0:=itL_ok h1 h2 (L:=L) (by omega) (fun s h=>hs s (List.mem_append_left _ h))
 rw [itL_snoc] at hok hR ⊢
 obtain ⟨D',y1,y2,y3,y4⟩:=St.add_ok hok hq he hR hz
 refine ⟨D',?_,y2,y3,y4⟩
 have he:(St.sA k (itL k L)).ends.length=L.length:=by
  show (St.bA k (itL k L)).ends.length=_
  rw [hok0.lens.ends,itL_len]
 rw [a_of (hs x (by simp)) (by omega) rfl y1,if_pos rfl]
section
variable {a p:Nat} {U:Nat→Prop} {D:St.DV} {S:St.SV} {L:List ByteArray}
set_option maxRecDepth 100000 in
set_option maxHeartbeats 2000000 in
theorem lhas_yes (w:World) (ht:Tb w) (h:Lg w 0 a p U D S L) (he:S.ends.length=L.length) (hg : ∀ i x,L[i]? = some x→gtD D S L i=(x,0)) (ao:Option Addr) (b len cap:Nat) (hr:RdS w ao b 0 len L) (hz:len≤1000000) :
  Calls Tryz.prog 19 #[.pointer (some ⟨a,0,none⟩),.slice ao len cap] w fun e w'=>e = .returned (.bool true)∧Below w.heap.size w w':=by
 have hl:=hr.hl
 have HS:Hid (Calls Tryz.prog 33 #[.pointer (some ⟨a,0,none⟩)] w fun e w'=>e = .returned (.tuple #[.int .u64 (len:Int),.int .i64 0])∧Below w.heap.size w w'):=lsize_any w h len (by omega)
 have HG:Hid (∀ (W:World) (i:Nat) (x:ByteArray),Below w.heap.size w W→i<len→L[i]? = some x→Calls Tryz.prog 39 #[.pointer (some ⟨a,0,none⟩),.int .u64 (i:Int)] W fun e w'=>e = .returned (.tuple #[.string x,.int .i64 0])∧Below w.heap.size w w'):=fun W i x hW hi hx=>(lget_any W (ht.next hW) (h.next hW) he i (by omega) x 0 (hg i x hx)).mono fun e w' z=>⟨z.1,bnext hW z.2⟩
 have HR:Hid (∀ W,Below w.heap.size w W→RdS W ao b 0 len L):=fun W hW=>hr.next hW (Nat.le_refl _)
 have hptr:=hr.ptr
 have ew0:IntKind.u64.wrap (len:Int)=(len:Int):=by rw [IntKind.wrap_u64]; omega
 clear ht h he hg hr
 go_enter Tryz.func19,Tryz.ntmps19
 go_wp2_with (go_at_call 33; (with_reducible refine HS.out.mono ?_); rintro e w1 ⟨rfl,u1⟩)
 clear ew0
 go_loopg [7] len (fun g x wr => ∃ j:Nat,j≤len∧g=len - j∧x = .int .i64 (j:Int)∧Hid (Below w.heap.size w wr))
 case atStart =>
  go_light
  exact ⟨0,Nat.zero_le _,rfl,rfl,u1⟩
 case round =>
  clear HS u1
  obtain ⟨j,hj,rfl,rfl,HB⟩:=hrel
  by_cases hlt:j<len
  ·have hzj:(j:Int)<(len:Int):=by omega
   obtain rfl:=hptr (by omega)
   obtain ⟨x,hx⟩ : ∃ x,L[j]? = some x:=⟨_,List.getElem?_eq_getElem (by omega)⟩
   have hxd:L.getD j ByteArray.empty=x:=by rw [List.getD_eq_getElem?_getD,hx]; rfl
   have HG1:=hide (HG.out wr j x HB.out hlt hx)
   have HC:Hid (∀ W,Below w.heap.size w W→W.cell? ⟨b,j,none⟩=some (.string x)):=fun W hW=>by
    have:=(HR.out W hW).at hlt
    rwa [hxd,Nat.zero_add] at this
   have HW:Hid (IntKind.u64.wrap (j:Int)=(j:Int)∧IntKind.i64.wrap ((j:Int)+1)=((j+1:Nat):Int)):=⟨by rw [IntKind.wrap_u64]; omega,by rw [IntKind.wrap_i64]; omega⟩
   clear hx hxd HR HG hl
   obtain ⟨ew1,ew2⟩:=HW.out
   go_upto_region 8 with (go_at_call 39; (with_reducible refine HG1.out.mono ?_); rintro e w2 ⟨rfl,u2⟩)
   have c2:=HC.out w2 u2
   have hxx:(!(x.toList == x.toList))=false:=by simp
   clear HC
   go_wp2
   go_roundg (len - (j+1))
   case rel =>
    go_light
    clear ew1 ew2
    exact ⟨j+1,by omega,rfl,rfl,u2⟩
   case measure=>go_light; clear ew1 ew2; omega
  ·have hzj : ¬ (j:Int)<(len:Int):=by omega
   clear HR HG
   go_wp2
   go_ret
   exact ⟨rfl,HB.out⟩
end
end Go.Proofs.YtoblgjledefdbaaGreatDoor
namespace Go.Proofs.YtoblgjledefdbaaGreatDoor
open Go.RowKit
def Dw (w W:World) (p:Nat) (D:St.DV):Prop := ∃ Sd,St.Dsk W p Sd D∧(∀ b,Sd b→w.heap.size≤b)∧Below w.heap.size w W
def Nl (w W:World) (a p:Nat) (D:St.DV) (S:St.SV) (L:List ByteArray):Prop := ∃ U,Lg W 0 a p U D S L∧(∀ b,U b→w.heap.size≤b)∧Below w.heap.size w W
section
variable {w W W1:World} {a p:Nat} {D D':St.DV} {S S':St.SV} {L L':List ByteArray}
theorem Dw.below (h:Dw w W p D):Below w.heap.size w W:=by obtain ⟨_,_,_,hb⟩:=h; exact hb
theorem Nl.below (h:Nl w W a p D S L):Below w.heap.size w W:=by obtain ⟨_,_,_,hb⟩:=h; exact hb
theorem Nl.next (h:Nl w W a p D S L) (hb:Below W.heap.size W W1):Nl w W1 a p D S L:=by
 obtain ⟨U,h1,h2,h3⟩:=h
 exact ⟨U,h1.next hb,h2,bnext h3 hb⟩
theorem new_dw (w:World) (n:Nat) (hn:n≤268435456):Calls Tryz.prog 10 #[.int .i64 (n:Int)] w fun e w' => ∃ p,e = .returned (.pointer (some ⟨p,0,none⟩))∧Dw w w' p (St.newD n) :=
 (St.new_any w n n (by omega) (by omega)).mono fun e w' z=>by
  obtain ⟨p,Sd,z1,z2,z3,z4⟩:=z
  exact ⟨p,z1,Sd,z2,z3,z4⟩
theorem Dw.base (hb:Below w.heap.size w W) (h:Dw W W1 p D):Dw w W1 p D:=by
 obtain ⟨Sd,h1,h2,h3⟩:=h
 exact ⟨Sd,h1,fun b hb'=>Nat.le_trans hb.size (h2 b hb'),bnext hb h3⟩
theorem Dw.open (ht:Tb w) (h:Dw w W p D) (hrm:St.Rm 7 D) (k:Int) (hl:loD D k=(D',some (S',L'),0)) :
  Calls Tryz.prog 11 #[.pointer (some ⟨p,0,none⟩),.int .i64 k] W fun e w' => ∃ a,e = .returned (.tuple #[.pointer (some ⟨a,0,none⟩),.int .i64 0])∧Nl w w' a p D' S' L'∧S'.ends.length=L'.length:=by
 obtain ⟨Sd,h1,h2,h3⟩:=h
 refine (lopen_any W (ht.next h3) h1 hrm (fun e=>by have:=ht.lt; have:=h2 _ e; omega) k).mono fun e w' z => ?_
 rw [hl] at z
 obtain ⟨a,U,z1,z2,z3,z4,z5,z6⟩:=z
 exact ⟨a,z1,⟨U,z2,fun b hb=>(z3 b hb).elim (h2 b) (fun e=>Nat.le_trans h3.size e),h3.trans (z5.below h3.size h2)⟩,z6⟩
theorem Nl.tb (h:Nl w W a p D S L) (ht:Tb w):Tb W:=ht.next h.below
theorem Nl.append (h:Nl w W a p D S L) (ht:Tb w) (he:S.ends.length=L.length) (hb:Below W.heap.size W W1) (ao:Option Addr) (b len cap:Nat) (xs:List ByteArray) (hr:RdS W1 ao b 0 len xs) (hlen:len≤1000000) (n3:0<len→b<w.heap.size∨W.heap.size≤b) (hR:RmA D S L xs) (n:Nat) (e0:Int) (hA:apD D S L xs=(D',S',L',n,e0)) :
  Calls Tryz.prog 14 #[.pointer (some ⟨a,0,none⟩),.slice ao len cap] W1 fun e w'=>e = .returned (.tuple #[.int .i64 (n:Int),.int .i64 e0])∧Nl w w' a p D' S' L':=by
 have h1:=h.next hb
 have ht1:=h1.tb ht
 obtain ⟨U,y1,y2,y3⟩:=h
 refine (lappend_any W1 ht1 (y1.next hb) he ao b len cap xs hr (by omega) (fun h0 hu => ?_) hR n e0 hA).mono fun e w' z=>⟨z.1,?_⟩
 ·have:=y1.lt hu
  have:=y2 b hu
  rcases n3 h0 with e | e <;> omega
 ·obtain ⟨U',z1,z2,z3⟩:=z.2
  have hb3:=bnext y3 hb
  exact ⟨U',z1,fun c hc=>(z2 c hc).elim (y2 c) (fun e=>Nat.le_trans hb3.size e),hb3.trans (z3.below hb3.size y2)⟩
theorem Nl.get (h:Nl w W a p D S L) (ht:Tb w) (he:S.ends.length=L.length) (i:Nat) (hi:i<18446744073709551616) (t:ByteArray) (e0:Int) (hg:gtD D S L i=(t,e0)):Calls Tryz.prog 39 #[.pointer (some ⟨a,0,none⟩),.int .u64 (i:Int)] W fun e w'=>e = .returned (.tuple #[.string t,.int .i64 e0])∧Below W.heap.size W w':=by
 have ht1:=h.tb ht
 obtain ⟨U,y1,y2,y3⟩:=h
 exact lget_any W ht1 y1 he i hi t e0 hg
theorem Nl.has (h:Nl w W a p D S L) (ht:Tb w) (he:S.ends.length=L.length) (hg : ∀ i x,L[i]? = some x→gtD D S L i=(x,0)) (ao:Option Addr) (b len cap:Nat) (hr:RdS W ao b 0 len L) (hz:len≤1000000):Calls Tryz.prog 19 #[.pointer (some ⟨a,0,none⟩),.slice ao len cap] W fun e w'=>e = .returned (.bool true)∧Below W.heap.size W w':=by
 have ht1:=h.tb ht
 obtain ⟨U,y1,y2,y3⟩:=h
 exact lhas_yes W ht1 y1 he hg ao b len cap hr hz
theorem Nl.batch (h:Nl w W a p D S L) (ht:Tb w) (hL:L.length≤5000) (n:Nat) (hn:n≤L.length) (hb:Below W.heap.size W W1) (ao:Option Addr) (b off len c:Nat) (X:List Nat) (hr:RdU W1 ao b off len X) (hbl:0<len→b<w.heap.size∨W.heap.size≤b) (he:Cv.errS n X=0) :
  Calls Tryz.prog 38 #[.pointer (some ⟨a,0,none⟩),.int .u64 (n:Int),.slice ao len c] W1 fun e w'=>e = .returned (.tuple #[.string ⟨(enc (pvB S.k L n X)).toArray⟩,.int .i64 0])∧Below W1.heap.size W1 w':=by
 have ht1:=(h.next hb).tb ht
 obtain ⟨U,y1,y2,y3⟩:=h
 refine lbatch_ok W1 ht1 (y1.next hb) hL n hn ao b off len c X hr (fun h0 e => ?_) he
 have:=y1.lt y1.own
 have:=y2 a y1.own
 rcases hbl h0 with e1 | e1 <;> omega
end
end Go.Proofs.YtoblgjledefdbaaGreatDoor
namespace Go.Proofs.YtoblgjledefdbaaGreatDoor.St
open Go.RowKit
open Rc
attribute [local go_sem ↓] Go.wp_at_zero Go.wp_at_succ
theorem new_ext (k R:Nat):Ext k [] (newD R).L∧Qt R (newD R):=⟨⟨rfl,rfl,rfl,fun _ _ _ _=>rfl⟩,rfl,rfl,ord_nil,rfl⟩
theorem qt_rm {R:Nat} {D:DV} (h:Qt R D) (he:Oth D.L) (hR:R≤268435456) (ha:D.acts≤1000000):Rm 7 D:=⟨by omega,by have:=(tot_three h.ord he).2; omega,by have:=h.tot; omega⟩
end Go.Proofs.YtoblgjledefdbaaGreatDoor.St
namespace Go.Proofs.YtoblgjledefdbaaGreatDoor.St
open Go.RowKit
def nms (l:List (List UInt8×List UInt8)):List (List UInt8):=l.map (·.1)
def nmF (N:List (List UInt8)):List UInt8→Option Value:=fun s=>if s∈N then some (.agg #[]) else none
theorem nmF_upd (N:List (List UInt8)) (s:List UInt8):updF (nmF N) s (some (.agg #[]))=nmF (N++[s]):=by
 funext t
 simp only [updF,nmF,List.mem_append,List.mem_singleton]
 by_cases e:t=s
 ·simp [e]
 ·simp [e]
theorem nmF_in (N:List (List UInt8)) (s:List UInt8):s∈N↔(nmF N s).isSome=true:=by
 unfold nmF
 split <;> simp [*]
def canL (l:List (List UInt8×List UInt8)):Prop:=(nms l).Nodup ∧ ∀ x∈l,x.2.length≤268435456
theorem nms_take {l:List (List UInt8×List UInt8)} {j:Nat} {x:List UInt8×List UInt8} (h:l.take (j+1)=l.take j++[x]) (hn:(nms l).Nodup):x.1 ∉ nms (l.take j)∧(nms (l.take j)).Nodup:=by
 have h1:nms (l.take (j+1))=nms (l.take j)++[x.1]:=by rw [h]; simp [nms]
 have h2:(nms (l.take (j+1))).Nodup:=by
  have:nms (l.take (j+1))=(nms l).take (j+1):=by simp [nms,List.map_take]
  rw [this]
  exact hn.sublist (List.take_sublist _ _)
 rw [h1] at h2
 have h3:=List.nodup_append.1 h2
 exact ⟨fun hm=>h3.2.2 _ hm _ (List.mem_singleton.2 rfl) rfl,h3.1⟩
set_option maxRecDepth 100000 in
set_option maxHeartbeats 2000000 in
theorem canlie_yes (w:World) (ao:Option Addr) (b off c:Nat) (l:List (List UInt8×List UInt8)) (hr:RdF w ao b off l) (hs : ∀ x∈l,x.1.length≤maxLen) (hl:l.length≤1099511627776) (hc:canL l) :
  Calls Tryz.prog 50 #[.slice ao l.length c] w fun e w'=>e = .returned (.bool true)∧Below w.heap.size w w':=by
 have hmm := @run_makeMap Tryz.prog
 obtain ⟨n,hn⟩ : ∃ n,l.length=n:=⟨_,rfl⟩
 have HH:Hid (RdF w ao b off l∧(∀ x∈l,x.1.length≤maxLen)∧l.length=n∧n≤1099511627776∧canL l):=⟨hr,hs,hn,by omega,hc⟩
 rw [hn]
 clear hr hs hl hn hc
 go_enter Tryz.func50,Tryz.ntmps50
 go_wp2
 go_loopg [11] n (fun g i wr => ∃ j:Nat,j≤n∧g=n - j∧i = .int .i64 (j:Int)∧Mv wr w.heap.size (nmF (nms (l.take j)))∧Below w.heap.size w wr)
 case atStart =>
  refine ⟨0,Nat.zero_le _,rfl,rfl,?_,bal (Below.refl _ _) _⟩
  have:=mv_new w
  exact this
 case round =>
  obtain ⟨j,hj,rfl,rfl,hM,hb⟩:=hrel
  by_cases hlt:j<n
  ·obtain ⟨x,hx⟩ : ∃ x,l.getD j ([],[])=x:=⟨_,rfl⟩
   obtain ⟨q1,q2,q3,q4,q5⟩:=HH.out
   have hxm:x∈l:=by
    rw [← hx,List.getD_eq_getElem?_getD,List.getElem?_eq_getElem (by omega)]
    exact List.getElem_mem _
   have rr:=q1.next hb
   have c0:=rr.c0 j (by omega)
   have c1:=rr.c1 j (by omega)
   rw [hx] at c0 c1
   have ea:=rr.ptr (by omega)
   have htk:l.take (j+1)=l.take j++[x]:=by rw [← hx]; exact take_snoc _ _ _ (by omega)
   obtain ⟨hno,hnd⟩:=nms_take htk q5.1
   obtain ⟨nm,hnm⟩ : ∃ nm:ByteArray,(⟨x.1.toArray⟩:ByteArray)=nm:=⟨_,rfl⟩
   obtain ⟨dt,hdt⟩ : ∃ dt:ByteArray,(⟨x.2.toArray⟩:ByteArray)=dt:=⟨_,rfl⟩
   rw [hnm] at c0
   rw [hdt] at c1
   have hsz:nm.size≤maxLen:=by rw [← size_list,← hnm]; exact q2 x hxm
   have hds:dt.size≤268435456:=by rw [← size_list,← hdt]; exact q5.2 x hxm
   have hnl:nm.data.toList=x.1:=by rw [← hnm]
   have hi1:(0:Int)≤(j:Int):=by omega
   have hi2:(j:Int)<(n:Int):=by omega
   have hw:IntKind.i64.wrap ((j:Int)+1)=(j:Int)+1:=by rw [IntKind.wrap_i64]; omega
   have hgt : ¬ ((dt.size:Int) > 268435456):=by omega
   obtain ⟨w1,hw1⟩ : ∃ W,wr.alloc (.cells #[.string nm,.string dt] 72)=W:=⟨_,rfl⟩
   have HW1:=hide hw1
   have hb1:Below wr.heap.size wr w1:=by rw [← hw1]; exact bal (Below.refl _ _) _
   have k1:w1.heap[wr.heap.size]? = some (.cells #[.string nm,.string dt] 72 (0,0)):=by rw [← hw1]; exact new1 _ _
   have d0:w1.cell? ⟨wr.heap.size,0,none⟩=some (.string nm):=by rw [cell_of_row w1 wr.heap.size 0 _ _ (0,0) k1]; rfl
   have d1:w1.cell? ⟨wr.heap.size,1,none⟩=some (.string dt):=by rw [cell_of_row w1 wr.heap.size 1 _ _ (0,0) k1]; rfl
   have M1:=hM.same (hb1.block _ hM.lt)
   have hlk:=M1.look_ok Tryz.underlying180 (z := .agg #[]) (by kernel_rfl) hsz
   rw [hnl,nmF,if_neg hno] at hlk
   simp only [Option.getD_none,Option.isSome_none] at hlk
   subst ea
   obtain ⟨w2,hw2⟩ : ∃ W,w1.alloc (.cells #[] 108)=W:=⟨_,rfl⟩
   have HW2:=hide hw2
   have hb2:Below w1.heap.size w1 w2:=by rw [← hw2]; exact bal (Below.refl _ _) _
   have k2:=(hb2.block _ (Array.getElem?_eq_some_iff.1 k1).1).trans k1
   have e0:w2.cell? ⟨wr.heap.size,0,none⟩=some (.string nm):=by rw [cell_of_row w2 wr.heap.size 0 _ _ (0,0) k2]; rfl
   have e1:w2.cell? ⟨wr.heap.size,1,none⟩=some (.string dt):=by rw [cell_of_row w2 wr.heap.size 1 _ _ (0,0) k2]; rfl
   have M2:=M1.same (hb2.block _ M1.lt)
   have hlen:(nms (l.take j)).length<maxLen:=by
    rw [nms,List.length_map,List.length_take]
    unfold maxLen
    omega
   obtain ⟨w3,hup,M3,g3⟩:=M2.write Tryz.underlying180 hnd (nmF_in _) hlen hsz (.agg #[])
   rw [hnl,nmF_upd] at M3
   have HG:Hid (Mv w3 w.heap.size (nmF (nms (l.take (j+1))))∧Below w.heap.size w w3):=by
    refine ⟨?_,?_⟩
    ·rw [htk,show nms (l.take j++[x])=nms (l.take j)++[x.1] by simp [nms]]; exact M3
    ·exact (bnext (bnext hb hb1) hb2).grown g3 (bnext (bnext hb hb1) hb2).size (fun y hy=>by injection hy with hy; omega)
   clear hw2 hb1 hb2 k1 k2 M1 M2 M3 g3 hb hM
   clear q1 q2 q3 q4 q5 rr hx hxm hw1 hnm hdt
   go_upto_region 5 with (fail)
   rw [HW1.out]
   go_upto_region 6 with (fail)
   rw [HW2.out]
   go_wp2
   go_roundg (n - (j+1))
   case rel =>
    go_light
    exact ⟨j+1,by omega,rfl,by go_num,HG.out.1,HG.out.2⟩
   case measure=>go_light; omega
  ·obtain rfl:j=n:=by omega
   have hz : ¬ ((j:Int)<(j:Int)):=by omega
   have HB:=hide hb
   clear hb hM hlt
   go_wp2
   go_ret
   exact ⟨rfl,HB.out⟩
def byt:List (List UInt8×List UInt8)→Nat
 | []=>0
 | x::r=>x.2.length+byt r
theorem byt_snoc (l:List (List UInt8×List UInt8)) (x:List UInt8×List UInt8):byt (l++[x])=byt l+x.2.length:=by
 induction l with
 | nil=>simp [byt]
 | cons y r ih=>simp only [List.cons_append,byt,ih]; omega
theorem byt_take (l:List (List UInt8×List UInt8)) (j:Nat):byt (l.take j)≤byt l:=by
 induction l generalizing j with
 | nil=>simp [byt]
 | cons y r ih =>
  cases j with
  | zero=>simp [byt]
  | succ j=>have:=ih j; simp only [List.take_succ_cons,byt]; omega
def openD (room:Nat) (l:List (List UInt8×List UInt8)):DV:=⟨room - byt l,layL l,0,0,0,[],false⟩
set_option maxRecDepth 100000 in
set_option maxHeartbeats 2000000 in
theorem open_yes (w:World) (room:Nat) (hroom:room≤9223372036854775807) (ao:Option Addr) (b off c:Nat) (l:List (List UInt8×List UInt8)) (hr:RdF w ao b off l) (hs : ∀ x∈l,x.1.length≤maxLen) (hl:l.length≤1099511627776) (hc:canL l) (hfit:byt l≤room) :
  Calls Tryz.prog 16 #[.int .i64 (room:Int),.slice ao l.length c] w fun e w' => ∃ p S,e = .returned (.tuple #[.pointer (some ⟨p,0,none⟩),.int .i64 0])∧Dsk w' p S (openD room l)∧(∀ x,S x→w.heap.size≤x)∧Below w.heap.size w w':=by
 have HC:=canlie_yes w ao b off c l hr hs hl hc
 obtain ⟨n,hn⟩ : ∃ n,l.length=n:=⟨_,rfl⟩
 have HH:Hid (RdF w ao b off l∧(∀ x∈l,x.1.length≤maxLen)∧l.length=n∧n≤1099511627776∧canL l∧byt l≤room∧room≤9223372036854775807):=⟨hr,hs,hn,by omega,hc,hfit,hroom⟩
 have HL:Hid (∀ W,Below w.heap.size w W→Calls Tryz.prog 51 #[.slice ao n c] W fun e w' => ∃ R,e = .returned (.map (some W.heap.size))∧Fm w' W.heap.size R (layL l)∧(∀ s∈keys (layL l),∀ x,Blk (R s) x→W.heap.size≤x)∧Below W.heap.size W w'):=fun W hW=>by
  rw [← hn]; exact laid_any W ao b off c l (hr.next hW) (fun x hx=>⟨hs x hx,hc.2 x hx⟩) hl
 rw [hn] at HC ⊢
 have hm:max (room:Int) 0=(room:Int):=by omega
 clear hr hs hl hn hc hfit
 go_enter Tryz.func16,Tryz.ntmps16
 go_upto_region 3 with (go_at_call 50; (with_reducible refine HC.mono ?_); rintro e w1 ⟨rfl,u1⟩)
 clear HC
 go_wp2
 go_loopg [6,16] n (fun g f i wr => ∃ j:Nat,j≤n∧g=n - j∧i = .int .i64 (j:Int)∧f = .int .i64 ((room - byt (l.take j):Nat):Int)∧Below w.heap.size w wr)
 case atStart =>
  go_light
  exact ⟨0,Nat.zero_le _,rfl,rfl,by simp [byt],u1⟩
 case round =>
  obtain ⟨j,hj,rfl,rfl,rfl,hb⟩:=hrel
  by_cases hlt:j<n
  ·obtain ⟨x,hx⟩ : ∃ x,l.getD j ([],[])=x:=⟨_,rfl⟩
   obtain ⟨q1,q2,q3,q4,q5,q6,q7⟩:=HH.out
   have rr:=q1.next hb
   have c0:=rr.c0 j (by omega)
   have c1:=rr.c1 j (by omega)
   rw [hx] at c0 c1
   have ea:=rr.ptr (by omega)
   have htk:l.take (j+1)=l.take j++[x]:=by rw [← hx]; exact take_snoc _ _ _ (by omega)
   have hbt:=byt_snoc (l.take j) x
   rw [← htk] at hbt
   have hle:=byt_take l (j+1)
   obtain ⟨nm,hnm⟩ : ∃ nm:ByteArray,(⟨x.1.toArray⟩:ByteArray)=nm:=⟨_,rfl⟩
   obtain ⟨dt,hdt⟩ : ∃ dt:ByteArray,(⟨x.2.toArray⟩:ByteArray)=dt:=⟨_,rfl⟩
   rw [hnm] at c0
   rw [hdt] at c1
   have hds:dt.size=x.2.length:=by rw [← size_list,← hdt]
   obtain ⟨fr,hfr⟩ : ∃ fr,room - byt (l.take j)=fr:=⟨_,rfl⟩
   have hgt : ¬ ((dt.size:Int) > (fr:Int)):=by omega
   have hi1:(0:Int)≤(j:Int):=by omega
   have hi2:(j:Int)<(n:Int):=by omega
   have hw:IntKind.i64.wrap ((j:Int)+1)=(j:Int)+1:=by rw [IntKind.wrap_i64]; omega
   have hw2:IntKind.i64.wrap ((fr:Int) - (dt.size:Int))=((room - byt (l.take (j+1)):Nat):Int):=by rw [IntKind.wrap_i64]; omega
   obtain ⟨f2,hf2⟩ : ∃ f2,room - byt (l.take (j+1))=f2:=⟨_,rfl⟩
   rw [hf2] at hw2
   rw [hfr]
   obtain ⟨w2,hw2'⟩ : ∃ W,wr.alloc (.cells #[.string nm,.string dt] 72)=W:=⟨_,rfl⟩
   have HW2:=hide hw2'
   have hb2:Below wr.heap.size wr w2:=by rw [← hw2']; exact bal (Below.refl _ _) _
   have k1:w2.heap[wr.heap.size]? = some (.cells #[.string nm,.string dt] 72 (0,0)):=by rw [← hw2']; exact new1 _ _
   have d1:w2.cell? ⟨wr.heap.size,1,none⟩=some (.string dt):=by rw [cell_of_row w2 wr.heap.size 1 _ _ (0,0) k1]; rfl
   have HG:Hid (Below w.heap.size w w2∧room - byt (l.take (j+1))=f2):=⟨bnext hb hb2,hf2⟩
   subst ea
   clear q1 q2 q3 q4 q5 q6 q7 rr hx hw2' hnm hdt hb hb2 k1 htk hbt hle hds hf2 hfr
   go_upto_region 7 with (fail)
   rw [HW2.out]
   go_wp2
   go_roundg (n - (j+1))
   case rel =>
    go_light
    exact ⟨j+1,by omega,rfl,by go_num,by rw [HG.out.2],HG.out.1⟩
   case measure=>go_light; omega
  ·obtain rfl:j=n:=by omega
   have hz : ¬ ((j:Int)<(j:Int)):=by omega
   have htk:l.take j=l:=List.take_of_length_le (by have:=HH.out.2.2.1; omega)
   rw [htk]
   have HLw:=hide (HL.out wr hb)
   obtain ⟨fr,hfr⟩ : ∃ fr,room - byt l=fr:=⟨_,rfl⟩
   rw [hfr]
   have HB:=hide hb
   have HFr:=hide hfr
   clear hb hlt hj htk HL hfr
   go_wp2_with (go_at_call 51; (with_reducible refine HLw.out.mono ?_); rintro e w3 ⟨R,rfl,hF,hlow,hb3⟩)
   go_ret2
   have k1:=new1 w3 (.cells #[.int .i64 (fr:Int),.map (some wr.heap.size),.int .i64 0,.int .i64 0,.int .i64 0,.slice none 0 0,.bool false] 98)
   have hbe:Below w3.heap.size w3 (w3.alloc (.cells #[.int .i64 (fr:Int),.map (some wr.heap.size),.int .i64 0,.int .i64 0,.int .i64 0,.slice none 0 0,.bool false] 98)):=bal (Below.refl _ _) _
   have hF2:=hF.same (hbe.block _ hF.mp.lt) (fun x hx=>hbe.block x hx.lt)
   have h7:=HH.out.2.2.2.2.2.2
   have hfe:=HFr.out
   refine ⟨w3.heap.size,Foot w3.heap.size wr.heap.size R 0 (openD room l),rfl,⟨wr.heap.size,R,none,0,0,0,⟨?_,hF2.mp,hF2.ord,fun s hs _=>hF2.fil s hs,fun s hs x hx=>(hF2.fil s hs).blk hx,hF2.apart,hF2.nm,hF2.cnt,rdl_nil _ _ _ _,fun h0=>by simp [openD] at h0,by simp [openD],by show room - byt l≤_; omega,by simp [openD],.inl rfl⟩,fun x=>Iff.rfl⟩,fun x hx => ?_,bnext (bnext HB.out hb3) hbe⟩
   ·rw [← hfe] at k1
    rw [← hfe]; exact k1
   ·have z1:=HB.out.size
    have z2:=hb3.size
    rcases hx with q | q | ⟨s,hs,q⟩ | ⟨q,_⟩
    ·omega
    ·omega
    ·have:=hlow s hs x q; omega
    ·simp [openD] at q
end Go.Proofs.YtoblgjledefdbaaGreatDoor.St
namespace Go.Proofs.YtoblgjledefdbaaGreatDoor.St
open Rc
theorem byt_mem : ∀ (F:List (List UInt8×List UInt8)) (x:List UInt8×List UInt8),x∈F→x.2.length≤byt F
 | [],x,h=>by simp at h
 | y::r,x,h=>by
  show x.2.length≤y.2.length+byt r
  rcases List.mem_cons.1 h with rfl | h
  ·omega
  ·have:=byt_mem r x h; omega
theorem tot_allS (F:List (List UInt8×List UInt8)):tot (allS F)=byt F:=by
 induction F with
 | nil=>rfl
 | cons x r ih =>
  show x.2.length+tot (allS r)=x.2.length+byt r
  rw [ih]
def unS (f:FV):Nat→Nat
 | 0=>0
 | s+1=>unS f s+(if sec f.now s=sec f.syn s then 0 else 1)
theorem sgo_cntS (keep:List Bool) (f:FV) (i s:Nat):(sgo keep f i s).2=i+unS f s:=by
 induction s with
 | zero=>rfl
 | succ s ih =>
  simp only [sgo,unS]
  split
  ·simp only [ih]; omega
  ·simp only [ih]; omega
def tkS (keep:List Bool) (f:FV) (i s:Nat):Bool := !decide (sec f.now s=sec f.syn s) && ch keep (i+unS f s)
theorem sec_atS (l:List UInt8) (s r:Nat) (hr:r<64):(sec l s).getD r 0=l.getD (64 * s+r) 0:=by
 simp [sec,List.getD_eq_getElem?_getD,hr]
theorem sgo_atS (keep:List Bool) (f:FV) (i:Nat) : ∀ (n s r:Nat),s<n→r<64→(sgo keep f i n).1.getD (64 * s+r) 0=(if tkS keep f i s then f.now else f.syn).getD (64 * s+r) 0
 | 0,s,r,h,_=>by omega
 | n+1,s,r,h,hr=>by
  have hl:=sgo_len keep f i n
  have hc:=sgo_cntS keep f i n
  have happ : ∀ X:List UInt8,((sgo keep f i n).1++X).getD (64 * s+r) 0=if s<n then (sgo keep f i n).1.getD (64 * s+r) 0 else X.getD (64 * s+r - 64 * n) 0:=fun X=>by
   simp only [List.getD_eq_getElem?_getD]
   split
   ·rw [List.getElem?_append_left (by omega)]
   ·rw [List.getElem?_append_right (by omega),hl]
  have ih:=sgo_atS keep f i n s r
  simp only [sgo]
  by_cases e:s<n
  ·have:=ih e hr
   split
   ·rw [happ,if_pos e,this]
   ·rw [happ,if_pos e,this]
  ·obtain rfl:s=n:=by omega
   have hz:64 * s+r - 64 * s=r:=by omega
   split
   ·rename_i he
    rw [happ,if_neg e,hz,sec_atS _ _ _ hr]
    simp [tkS,he]
   ·rename_i he
    simp only
    rw [happ,if_neg e,hz,hc]
    cases hch:ch keep (i+unS f s)
    ·simp only [tkS,hch,Bool.and_false,if_false,Bool.false_eq_true]
     exact sec_atS _ _ _ hr
    ·simp only [tkS,hch,he,decide_false,Bool.not_false,Bool.and_true,if_true]
     exact sec_atS _ _ _ hr
theorem slen_leS (keep:List Bool) (f:FV) (i:Nat):(slen keep f i).1=f.now.length∨(slen keep f i).1=f.syn.length:=by
 unfold slen
 split
 ·exact .inr rfl
 ·split
  ·exact .inl rfl
  ·exact .inr rfl
theorem stay_atS (keep:List Bool) (f:FV) (i j:Nat) (hj:j<(slen keep f i).1):(stay keep f i).1.getD j 0=(if tkS keep f (slen keep f i).2 (j / 64) then f.now else f.syn).getD j 0:=by
 have h1:=slen_leS keep f i
 have h2:j / 64<nsec f:=by unfold nsec; omega
 have h3:=sgo_atS keep f (slen keep f i).2 (nsec f) (j / 64) (j % 64) h2 (Nat.mod_lt _ (by omega))
 rw [show 64 * (j / 64)+j % 64=j from Nat.div_add_mod j 64] at h3
 rw [← h3]
 simp only [stay,List.getD_eq_getElem?_getD,List.getElem?_take,hj,if_true]
theorem list_extS {a b:List UInt8} (hl:a.length=b.length) (h : ∀ j,j<a.length→a.getD j 0=b.getD j 0):a=b:=by
 apply List.ext_getElem hl
 intro j h1 h2
 have:=h j h1
 simpa [List.getD_eq_getElem?_getD,List.getElem?_eq_getElem h1,List.getElem?_eq_getElem h2] using this
theorem getD_take (l:List UInt8) (n j:Nat) (h:j<n):(l.take n).getD j 0=l.getD j 0:=by
 simp [List.getD_eq_getElem?_getD,h]
theorem pre_iff {p l:List UInt8} (hl:p.length≤l.length) (h : ∀ j,j<p.length→l.getD j 0=p.getD j 0):p <+: l:=by
 rw [List.prefix_iff_eq_take]
 refine list_extS (by rw [List.length_take]; omega) fun j hj => ?_
 rw [getD_take _ _ _ hj,h j hj]
theorem pre_at {p l:List UInt8} (h:p <+: l) (j:Nat) (hj:j<p.length):l.getD j 0=p.getD j 0:=by
 rw [List.prefix_iff_eq_take.1 h,List.length_take] at *
 rw [getD_take _ _ _ (by omega)]
theorem stay_lenS (keep:List Bool) (f:FV) (i:Nat):(stay keep f i).1.length=f.now.length∨(stay keep f i).1.length=f.syn.length:=by
 rw [stay_len]; exact slen_leS keep f i
theorem stay_pre (keep:List Bool) (f:FV) (i:Nat) {p:List UInt8} (h1:p <+: f.now) (h2:p <+: f.syn):p <+: (stay keep f i).1:=by
 have hl:=stay_len keep f i
 have hs:=slen_leS keep f i
 have l1:=h1.length_le
 have l2:=h2.length_le
 refine pre_iff (by omega) fun j hj => ?_
 rw [stay_atS keep f i j (by omega)]
 split
 ·exact pre_at h1 j hj
 ·exact pre_at h2 j hj
theorem stay_mark (keep:List Bool) (m t u:List UInt8) (n i:Nat) (hm:m.length=64 * n) (ht:t=[]∨t.length=64) (hu:u=[]∨u.length=64):(stay keep ⟨m++t,m++u⟩ i).1=m∨(stay keep ⟨m++t,m++u⟩ i).1=m++sec (m++t) n∨(stay keep ⟨m++t,m++u⟩ i).1=m++sec (m++u) n:=by
 obtain ⟨y,hy⟩:=stay_pre keep ⟨m++t,m++u⟩ i (p:=m) (List.prefix_append _ _) (List.prefix_append _ _)
 have hl:=stay_len keep ⟨m++t,m++u⟩ i
 have hs:=slen_leS keep ⟨m++t,m++u⟩ i
 simp only [List.length_append] at hs
 have ht':t.length=0∨t.length=64:=ht.imp (fun e=>by rw [e]; rfl) id
 have hu':u.length=0∨u.length=64:=hu.imp (fun e=>by rw [e]; rfl) id
 have hyl:y.length=0∨y.length=64:=by
  rw [← hy,List.length_append] at hl
  omega
 rcases hyl with h0 | h64
 ·left
  rw [← hy,List.length_eq_zero_iff.1 h0,List.append_nil]
 ·right
  have hat : ∀ r,r<64→y.getD r 0=(if tkS keep ⟨m++t,m++u⟩ (slen keep ⟨m++t,m++u⟩ i).2 n then m++t else m++u).getD (64 * n+r) 0:=fun r hr=>by
   have h3:=stay_atS keep ⟨m++t,m++u⟩ i (64 * n+r) (by rw [← hl,← hy,List.length_append]; omega)
   rw [show (64 * n+r) / 64=n by omega] at h3
   rw [← h3,← hy,List.getD_eq_getElem?_getD,List.getD_eq_getElem?_getD,List.getElem?_append_right (by omega),show 64 * n+r - m.length=r by omega]
  cases hc:tkS keep ⟨m++t,m++u⟩ (slen keep ⟨m++t,m++u⟩ i).2 n
  ·right
   rw [← hy]
   congr 1
   refine list_extS (by rw [h64,sec_len]) fun r hr => ?_
   rw [hat r (by omega),hc,sec_atS _ _ _ (by omega)]; rfl
  ·left
   rw [← hy]
   congr 1
   refine list_extS (by rw [h64,sec_len]) fun r hr => ?_
   rw [hat r (by omega),hc,sec_atS _ _ _ (by omega)]; rfl
theorem sec_end (m t:List UInt8) (n:Nat) (hm:m.length=64 * n) (ht:t.length=64):sec (m++t) n=t:=by
 refine list_extS (by rw [sec_len,ht]) fun r hr => ?_
 rw [sec_len] at hr
 rw [sec_atS _ _ _ hr,List.getD_eq_getElem?_getD,List.getD_eq_getElem?_getD,List.getElem?_append_right (by omega),show 64 * n+r - m.length=r by omega]
theorem sec_out (m:List UInt8) (n:Nat) (hm:m.length=64 * n):sec m n=zer 64:=by
 refine list_extS (by rw [sec_len,zer_len]) fun r hr => ?_
 rw [sec_len] at hr
 rw [sec_atS _ _ _ hr,List.getD_eq_getElem?_getD,List.getElem?_eq_none (by omega),List.getD_eq_getElem?_getD]
 unfold zer
 rw [List.getElem?_replicate,if_pos hr]; rfl
theorem aft_none (ks:List Bool) (s:List UInt8) : ∀ (L:List (List UInt8×FV)) (i:Nat),(∀ p∈L,s<p.1)→fget (allS (aft ks L i)) s=fz
 | [],_,_=>rfl
 | (t,f)::r,i,h=>by
  have ih:=aft_none ks s r (stay ks f i).2 (fun p hp=>h p (List.mem_cons_of_mem _ hp))
  simp only [aft]
  split
  ·exact ih
  ·show (if t=s then (⟨_,_⟩:FV) else fget (allS _) s)=_
   rw [if_neg (fun e=>by have:=h (t,f) (by simp); rw [e] at this; exact List.lt_irrefl _ this)]
   exact ih
theorem stay_fz (ks:List Bool) (i:Nat):(stay ks fz i).1=[]:=by
 rw [← List.length_eq_zero_iff]
 rcases stay_lenS ks fz i with h | h
 ·rw [h]; rfl
 ·rw [h]; rfl
theorem aft_get (ks:List Bool) (s:List UInt8) : ∀ (L:List (List UInt8×FV)) (i:Nat),L.Pairwise (fun a b=>a.1<b.1) → ∃ j,fget (allS (aft ks L i)) s=⟨(stay ks (fget L s) j).1,(stay ks (fget L s) j).1⟩
 | [],i,_=>⟨0,by show fz=⟨(stay ks fz 0).1,(stay ks fz 0).1⟩; rw [stay_fz]; rfl⟩
 | (t,f)::r,i,h=>by
  obtain ⟨h1,h2⟩:=List.pairwise_cons.1 h
  obtain ⟨j,ih⟩:=aft_get ks s r (stay ks f i).2 h2
  by_cases e:t=s
  ·subst e
   refine ⟨i,?_⟩
   rw [fget,if_pos rfl]
   simp only [aft]
   split
   ·rename_i h0
    rw [aft_none ks t r _ h1,h0]; rfl
   ·show (if t=t then (⟨_,_⟩:FV) else fget (allS _) t)=_
    rw [if_pos rfl]
  ·refine ⟨j,?_⟩
   rw [fget,if_neg e]
   simp only [aft]
   split
   ·exact ih
   ·show (if t=s then (⟨_,_⟩:FV) else fget (allS _) s)=_
    rw [if_neg e]
    exact ih
theorem lay_aft {L:List (List UInt8×FV)} (ho:Ord L) (ks:List Bool) (s:List UInt8) : ∃ j,fget (layL (aft ks L 0)) s=⟨(stay ks (fget L s) j).1,(stay ks (fget L s) j).1⟩:=by
 rw [lay_sor _ (aft_sor ks L 0 ho.1)]
 exact aft_get ks s L 0 ho.1
theorem sor_ord {F:List (List UInt8×List UInt8)} (h:Sor F):Ord (layL F):=by
 rw [lay_sor _ h]
 refine ⟨List.pairwise_map.2 h.1,fun p hp => ?_⟩
 obtain ⟨y,hy,rfl⟩:=List.mem_map.1 hp
 cases hg:(⟨y.2,y.2⟩:FV).gone
 ·rfl
 ·exact absurd (congrArg FV.now (gone_iff.1 hg)) (h.2 y hy)
end Go.Proofs.YtoblgjledefdbaaGreatDoor.St
