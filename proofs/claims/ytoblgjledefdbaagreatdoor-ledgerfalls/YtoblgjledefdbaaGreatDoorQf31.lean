/- Own work. -/
import Derived.BigQuiet
import Derived.WalkMore
import Derived.Deep.OwnRows
import Derived.Deep.RegionHeld3
import Derived.Test.YtoblgjledefdbaaGreatDoorQf15
import Derived.Test.YtoblgjledefdbaaGreatDoorQf30
namespace Go.Proofs.YtoblgjledefdbaaGreatDoor.Cv
open Pl
open Go.RowKit
attribute [local go_sem ↓] Go.wp_at_zero Go.wp_at_succ
def errR (lo hi n:Nat):Nat:=if 2^40<n then 30 else if n<hi then 31 else if hi<lo then 41 else 0
def covR (lo hi n:Nat):List (Nat×Nat):=if errR lo hi n=0 then cov lo hi else []
theorem ia_new (w:World):IA w.heap.size (fun _=>False) [] (w.alloc (.cells #[.slice none 0 0] 187)) :=
 ⟨⟨.slice none 0 0,heap_new _ _,World.ownsRow_nil _ _ _ _,fun _ _ h=>h⟩,fun h=>h⟩
theorem range_err (lo hi n e:Nat) (w:World) (he:errR lo hi n=e) (h0:e≠0) :
  Calls Tryz.prog 181 #[.int .u64 (lo:Int),.int .u64 (hi:Int),.int .u64 (n:Int)] w fun x w' => ∃ v,x = .returned (.tuple #[v,.int .i64 (e:Int)])∧OwnB w' w.heap.size v []∧Below w.heap.size w w':=by
 unfold errR at he
 by_cases h1:2^40<n
 ·rw [if_pos h1] at he
  subst he
  have ht:decide ((1099511627776:Int)<(n:Int))=true:=decide_eq_true (by omega)
  clear h0 h1
  go_enter Tryz.func181,Tryz.ntmps181
  go_wp2
  go_ret2
  exact ⟨_,rfl,World.ownsRow_nil _ _ _ _,Below.refl _ _⟩
 ·rw [if_neg h1] at he
  have ht:decide ((1099511627776:Int)<(n:Int))=false:=decide_eq_false (by omega)
  by_cases h2:n<hi
  ·rw [if_pos h2] at he
   subst he
   have ht2:(n:Int)<(hi:Int):=by omega
   clear h0 h1
   go_enter Tryz.func181,Tryz.ntmps181
   go_wp2
   go_ret2
   exact ⟨_,rfl,World.ownsRow_nil _ _ _ _,Below.refl _ _⟩
  ·rw [if_neg h2] at he
   have ht2 : ¬ (n:Int)<(hi:Int):=by omega
   by_cases h3:hi<lo
   ·rw [if_pos h3] at he
    subst he
    have ht3:(hi:Int)<(lo:Int):=by omega
    clear h0 h1
    go_enter Tryz.func181,Tryz.ntmps181
    go_wp2
    go_ret2
    exact ⟨_,rfl,World.ownsRow_nil _ _ _ _,Below.refl _ _⟩
   ·rw [if_neg h3] at he
    exact absurd he.symm h0
theorem range_ok (lo hi n:Nat) (w:World) (hn:n≤2^40) (hh:hi≤n) (hl:lo≤hi) :
  Calls Tryz.prog 181 #[.int .u64 (lo:Int),.int .u64 (hi:Int),.int .u64 (n:Int)] w fun x w' => ∃ v,x = .returned (.tuple #[v,.int .i64 0])∧OwnB w' w.heap.size v (zl (cov lo hi))∧Below w.heap.size w w':=by
 have ht:decide ((1099511627776:Int)<(n:Int))=false:=decide_eq_false (by omega)
 have ht2 : ¬ (n:Int)<(hi:Int):=by omega
 have ht3 : ¬ (hi:Int)<(lo:Int):=by omega
 have ht2' : ¬ n<hi:=by omega
 have ht3' : ¬ hi<lo:=by omega
 have HE:=each_any (.inl rfl) (give_range w.heap.size) (fun _=>False) [] lo hi (w.alloc (.cells #[.slice none 0 0] 187)) (ia_new w) (fun _ h=>h.elim) (by decide) hl (by omega)
 clear hn hh hl
 go_enter Tryz.func181,Tryz.ntmps181
 go_upto_region 9 with ((go_at_call 276; with_reducible refine HE.mono ?_; rintro e w1 ⟨rfl,hI,hb,_⟩))
 obtain ⟨⟨v,h1,h2,_⟩,_⟩:=hI
 have c0:=cell_of_one h1
 obtain ⟨ao,m,c,rfl⟩:=own_slice h2
 have HF:Hid (OwnB w1 w.heap.size (.slice ao m c) (zl (cov lo hi))∧Below w.heap.size w w1):=⟨by
  have:=h2.mono (base':=w.heap.size) (by omega)
  simpa using this,((Below.refl _ w).alloc (Nat.le_refl _) _).trans hb⟩
 clear h1 h2 hb HE
 go_wp2
 go_ret2
 exact ⟨_,rfl,HF.out.1,HF.out.2⟩
theorem range_any (lo hi n:Nat) (w:World) :
  Calls Tryz.prog 181 #[.int .u64 (lo:Int),.int .u64 (hi:Int),.int .u64 (n:Int)] w fun x w' => ∃ v,x = .returned (.tuple #[v,.int .i64 (errR lo hi n:Nat)])∧OwnB w' w.heap.size v (zl (covR lo hi n))∧Below w.heap.size w w':=by
 by_cases h:errR lo hi n=0
 ·have h':=h
  unfold errR at h'
  split at h'
  ·cases h'
  ·split at h'
   ·cases h'
   ·split at h'
    ·cases h'
    ·rw [h,covR,if_pos h]
     exact range_ok lo hi n w (by omega) (by omega) (by omega)
 ·rw [covR,if_neg h]
  exact range_err lo hi n _ w rfl h
end Go.Proofs.YtoblgjledefdbaaGreatDoor.Cv
namespace Go.Proofs.YtoblgjledefdbaaGreatDoor
open Go.RowKit
attribute [local go_sem ↓] Go.wp_at_zero Go.wp_at_succ
structure Frs (w:World) (m:Nat) (k:Int) (L:List ByteArray):Prop where
 blk:w.heap[m+1]? = some (.cells #[.int .i64 k,.int .u64 (L.length:Int),.map (some m)] 172 (0,0))
 mp:Mp w m (ff (clk k) L)
 k1:1≤k
 k2:k≤32
 hn:L.length≤65536
section
variable {w W:World} {m:Nat} {k:Int} {L:List ByteArray}
theorem Frs.lt (h:Frs w m k L):m+1<w.heap.size:=(Array.getElem?_eq_some_iff.1 h.blk).1
theorem Frs.c0 (h:Frs w m k L):w.cell? ⟨m+1,0,none⟩=some (.int .i64 k):=by rw [cell_of_row w (m+1) 0 _ _ (0,0) h.blk]; rfl
theorem Frs.c1 (h:Frs w m k L):w.cell? ⟨m+1,1,none⟩=some (.int .u64 (L.length:Int)):=by rw [cell_of_row w (m+1) 1 _ _ (0,0) h.blk]; rfl
theorem Frs.c2 (h:Frs w m k L):w.cell? ⟨m+1,2,none⟩=some (.map (some m)):=by rw [cell_of_row w (m+1) 2 _ _ (0,0) h.blk]; rfl
theorem Frs.fz (h:Frs w m k L) (j:Nat):w.frozen? ⟨m+1,j,none⟩=false:=frozen_of_row w (m+1) j _ _ h.blk
theorem Frs.same (h:Frs w m k L) (h0:W.heap[m]? = w.heap[m]?) (h1:W.heap[m+1]? = w.heap[m+1]?):Frs W m k L:=⟨h1.trans h.blk,h.mp.same h0,h.k1,h.k2,h.hn⟩
theorem Frs.next {B:Nat} (h:Frs w m k L) (hb:Below B w W) (hB:w.heap.size≤B):Frs W m k L :=
 h.same (hb.block m (by have:=h.lt; omega)) (hb.block (m+1) (by have:=h.lt; omega))
end
theorem ff_nil (c:Nat):(fun _ _=>none)=ff c []:=by
 funext h k
 rw [ff,if_neg]
 rintro ⟨_,e⟩
 have:=Nat.two_pow_pos h.toNat
 have:0<(k+1) * 2^h.toNat:=Nat.mul_pos (by omega) this
 simp at e
 omega
theorem fnew_ok (w:World) (k:Int) (h1:1≤k) (h2:k≤32) :
  Calls Tryz.prog 43 #[.int .i64 k] w fun e w'=>e = .returned (.tuple #[.pointer (some ⟨w.heap.size+1,0,none⟩),.int .i64 0])∧Frs w' w.heap.size k []∧Below w.heap.size w w':=by
 have HC:Hid (∀ W,Calls Tryz.prog 91 #[.int .i64 k] W fun e w'=>e = .returned (.int .i64 0)∧W=w'):=fun W=>by
  have:=(check_any W k)
  rw [show chk k=0 by rw [chk,if_neg (by omega)]] at this
  exact this.mono fun _ _ h=>⟨h.1,h.2.symm⟩
 have hmm := @run_makeMap Tryz.prog
 have HK:=hide (And.intro h1 h2)
 clear h1 h2
 go_enter Tryz.func43,Tryz.ntmps43
 go_wp2_with (go_at_call 91; with_reducible refine (HC.out _).mono ?_; rintro e w1 ⟨rfl,rfl⟩)
 go_ret2
 refine ⟨rfl,⟨?_,?_,HK.out.1,HK.out.2,by simp⟩,bal (bal (Below.refl _ _) _) _⟩
 ·have:=heap_alloc_new (w.alloc (.map #[] 0)) (.cells #[.int .i64 k,.int .u64 0,.map (some w.heap.size)] 172)
  simpa using this
 ·rw [← ff_nil]
  refine (mp_new w).same ?_
  exact (MapKept.heap_alloc (w.alloc (.map #[] 0)) _).2 w.heap.size (by simp)
theorem fsize_any (w:World) (m:Nat) (k:Int) (L:List ByteArray) (hF:Frs w m k L) :
  Calls Tryz.prog 132 #[.pointer (some ⟨m+1,0,none⟩)] w fun e w'=>e = .returned (.int .u64 (L.length:Int))∧w'=w:=by
 have c1:=hF.c1
 clear hF
 go_enter Tryz.func132,Tryz.ntmps132
 go_wp2
 go_ret
 exact ⟨rfl,rfl⟩
theorem fstrength_any (w:World) (m:Nat) (k:Int) (L:List ByteArray) (hF:Frs w m k L) :
  Calls Tryz.prog 134 #[.pointer (some ⟨m+1,0,none⟩)] w fun e w'=>e = .returned (.int .i64 k)∧w'=w:=by
 have c0:=hF.c0
 clear hF
 go_enter Tryz.func134,Tryz.ntmps134
 go_wp2
 go_ret
 exact ⟨rfl,rfl⟩
theorem fdigest_any (w:World) (m:Nat) (k:Int) (L:List ByteArray) (hF:Frs w m k L) (h:Int) (b:Nat) (hf:Fitb h b) (s:ByteArray) (ok:Bool) (hs:Hid ((ff (clk k) L h b).getD ByteArray.empty=s∧(ff (clk k) L h b).isSome=ok)) :
  Calls Tryz.prog 182 #[.pointer (some ⟨m+1,0,none⟩),.agg #[.int .i64 h,.int .u64 (b:Int)]] w fun e w'=>e = .returned (.tuple #[.string s,.bool ok])∧Below w.heap.size w w':=by
 have HL : ∀ W:World,W.heap[m]? = w.heap[m]? → (Instr.lookup 170 (.map (some m)) (.agg #[.int .i64 h,.int .u64 (b:Int)]) true).run Tryz.prog W = .ok (.tuple #[.agg #[.string s],.bool ok]) W:=fun W hW=>by
  have:=(hF.mp.same hW).look hf true
  rw [hs.out.1,hs.out.2] at this
  exact this
 have HF:Hid (∀ W,Below w.heap.size w W→W.cell? ⟨m+1,2,none⟩=some (.map (some m))∧(Instr.lookup 170 (.map (some m)) (.agg #[.int .i64 h,.int .u64 (b:Int)]) true).run Tryz.prog W = .ok (.tuple #[.agg #[.string s],.bool ok]) W):=fun W hb =>
  ⟨(hF.next hb (Nat.le_refl _)).c2,HL W (hb.block m (by have:=hF.lt; omega))⟩
 clear hF hs hf HL
 go_enter Tryz.func182,Tryz.ntmps182
 go_upto_region 1 with (fail)
 obtain ⟨w1,hw1⟩ : ∃ w1,w.alloc (.cells #[.int .i64 h,.int .u64 (b:Int)] 249)=w1:=⟨_,rfl⟩
 have k0:w1.cell? ⟨w.heap.size,0,none⟩=some (.int .i64 h):=by rw [← hw1]; simp
 have k1:w1.cell? ⟨w.heap.size,1,none⟩=some (.int .u64 (b:Int)):=by rw [← hw1]; simp
 have hb1:Below w.heap.size w w1:=by rw [← hw1]; exact bal (Below.refl _ _) _
 have hz:w.heap.size<w1.heap.size:=by rw [← hw1]; simp
 obtain ⟨a1,a2⟩:=HF.out w1.drew hb1.drew
 obtain ⟨a3,a4⟩:=HF.out (w1.drew.alloc (.cells #[.string ⟨#[]⟩] 315)) (bal hb1.drew _)
 obtain ⟨a5,a6⟩:=HF.out (w1.alloc (.cells #[.string ⟨#[]⟩] 315)).drew (bal hb1 _).drew
 rw [hw1]
 clear hw1
 go_region
 all_goals
  go_wp2
  go_ret2
  exact ⟨rfl,(bal hb1 _).drew⟩
theorem make_S (w:World) (n:Nat) (hn:n≤8796093022208):(Instr.makeSlice 22 (.int .i64 0) (.int .i64 (n:Int))).run Tryz.prog w = .ok (.slice (some ⟨w.heap.size,0,none⟩) 0 n) (w.alloc (.cells (madeCells #[.string ByteArray.empty] n) 9)):=by
 obtain ⟨i0,hi,hz0,hz1,hz2⟩:=info_parts Tryz.infoS
 have hr:=run_make (P:=Tryz.prog) w 22 9 i0 _ Tryz.underlying22 hi hz0 .i64 .i64 0 n (by omega) (by omega) (by rw [hz2]; omega) (by omega)
 simp only [Int.toNat_natCast,hz1,Nat.mul_one] at hr
 exact hr
theorem own_made (w:World) (n:Nat) (hn:n≤8796093022208):OwnS (w.alloc (.cells (madeCells #[.string ByteArray.empty] n) 9)) w.heap.size (.slice (some ⟨w.heap.size,0,none⟩) 0 n) [] :=
 ⟨rfl,.inr ⟨w.heap.size,n,_,rfl,Nat.le_refl _,heap_alloc_new w _,Nat.zero_le _,by unfold maxLen; omega,by rw [size_madeCells,Nat.mul_one],rfl⟩⟩
structure RdB (w:World) (ao:Option Addr) (g off n:Nat) (l:List (Int×Nat)):Prop where
 len:l.length=n
 addr:0<n→ao=some ⟨g,off,none⟩
 cell : ∀ j,j<n→w.cell? ⟨g,off+j * 2,none⟩=some (.int .i64 (l.getD j (0,0)).1)∧w.cell? ⟨g,off+j * 2+1,none⟩=some (.int .u64 ((l.getD j (0,0)).2:Nat))
 fit : ∀ b∈l,Fitb b.1 b.2
theorem RdB.below {w w':World} {ao:Option Addr} {g off n:Nat} {l:List (Int×Nat)} (r:RdB w ao g off n l) (h:Below w.heap.size w w'):RdB w' ao g off n l :=
 ⟨r.len,r.addr,fun j hj=>⟨(h.cell (p:=⟨g,off+j * 2,none⟩) (World.block_lt_of_cell? w _ (r.cell j hj).1)).trans (r.cell j hj).1,(h.cell (p:=⟨g,off+j * 2+1,none⟩) (World.block_lt_of_cell? w _ (r.cell j hj).2)).trans (r.cell j hj).2⟩,r.fit⟩
theorem own_rdB {w:World} {base:Nat} {v:Value} {l:List (Int×Nat)} (h:Cv.OwnB w base v l) (hf : ∀ b∈l,Fitb b.1 b.2) : ∃ ao g n cap,v = .slice ao n cap∧RdB w ao g 0 n l∧n≤maxLen:=by
 have h0:=h
 obtain ⟨h1,h2⟩:=h
 rcases h2 with ⟨rfl,h2⟩ | ⟨g,cap,cur,rfl,hg,hh,hc1,hc2,hc3,hc4⟩
 ·exact ⟨none,0,0,0,rfl,⟨h2,fun h=>absurd h (by omega),fun j hj=>absurd hj (by omega),hf⟩,Nat.zero_le _⟩
 ·refine ⟨some ⟨g,0,none⟩,g,l.length,cap,rfl,⟨rfl,fun _=>rfl,fun j hj => ?_,hf⟩,by omega⟩
  have hcl:=h0.cells (g:=g) rfl
  obtain ⟨⟨a,b⟩,hq⟩ : ∃ q,l[j]=q:=⟨_,rfl⟩
  have hget:l[j]? = some (a,b):=by rw [List.getElem?_eq_getElem hj,hq]
  obtain ⟨e1,e2⟩:=Cv.cB_get l j a b hget
  have f1:=hcl _ _ e1
  have f2:=hcl _ _ e2
  rw [Addr.add_mid,Nat.zero_add,Nat.mul_comm] at f1 f2
  rw [List.getD_eq_getElem?_getD,hget,Nat.zero_add]
  exact ⟨f1,f2⟩
def dgs (c:Nat) (L:List ByteArray):List (Int×Nat)→Option (List ByteArray)
 | []=>some []
 | b::r=>(ff c L b.1 b.2).bind fun x=>(dgs c L r).map fun A=>x::A
theorem dgs_app {c:Nat} {L:List ByteArray} {h:Int} {k:Nat} {x:ByteArray} (hx:ff c L h k=some x) : ∀ {B:List (Int×Nat)} {A:List ByteArray},dgs c L B=some A→dgs c L (B++[(h,k)])=some (A++[x])
 | [],A,e=>by
  simp [dgs] at e
  subst e
  simp [dgs,hx]
 | b::r,A,e=>by
  rw [dgs] at e
  obtain ⟨y,hy,e⟩:=Option.bind_eq_some_iff.1 e
  obtain ⟨A',hA,rfl⟩:=Option.map_eq_some_iff.1 e
  rw [List.cons_append,dgs,hy,dgs_app hx hA]
  rfl
theorem dgs_none {c:Nat} {L:List ByteArray} {b:Int×Nat} (hb:ff c L b.1 b.2=none) : ∀ {B:List (Int×Nat)},b∈B→dgs c L B=none
 | [],h=>by cases h
 | d::r,h=>by
  rw [dgs]
  rcases List.mem_cons.1 h with rfl | h
  ·rw [hb]; rfl
  ·rw [dgs_none hb h]
   cases ff c L d.1 d.2 <;> rfl
theorem dgs_all {c:Nat} {L:List ByteArray} : ∀ {B:List (Nat×Nat)},(∀ b∈B,(b.2+1) * 2^b.1≤L.length)→dgs c L (Cv.zl B)=some (B.map fun b=>nd c L b.1 b.2)
 | [],_=>rfl
 | b::r,h=>by
  show dgs c L (((b.1:Int),b.2)::Cv.zl r)=_
  rw [dgs,ff_nat c L b.1 b.2 (h b (by simp)),dgs_all (B:=r) (fun d hd=>h d (by simp [hd]))]
  rfl
set_option maxRecDepth 100000 in
set_option maxHeartbeats 1000000 in
theorem fdigests_any (w:World) (m:Nat) (k:Int) (L:List ByteArray) (hF:Frs w m k L) (ao:Option Addr) (g off cap:Nat) (B:List (Int×Nat)) (hr:RdB w ao g off B.length B) (hmx:B.length≤8796093021952) :
  Calls Tryz.prog 106 #[.pointer (some ⟨m+1,0,none⟩),.slice ao B.length cap] w fun e w'=>Below w.heap.size w w'∧((dgs (clk k) L B=none∧e = .returned (.tuple #[.slice none 0 0,.bool false]))∨(∃ D,dgs (clk k) L B=some D ∧ ∃ v,e = .returned (.tuple #[v,.bool true])∧OwnS w' w.heap.size v D)):=by
 have HM:=make_S w B.length (by omega)
 have HF:Hid (∀ W,Below w.heap.size w W→Frs W m k L∧RdB W ao g off B.length B):=fun W hb=>⟨hF.next hb (Nat.le_refl _),hr.below hb⟩
 have HX:=hide hmx
 have HO:Hid (OwnS (w.alloc (.cells (madeCells #[.string ByteArray.empty] B.length) 9)) w.heap.size (.slice (some ⟨w.heap.size,0,none⟩) 0 B.length) []):=own_made w _ (by omega)
 have h63:(B.length:Int)≤9223372036854775807:=by omega
 clear hF hr hmx
 go_enter Tryz.func106,Tryz.ntmps106
 go_wp2
 go_loopg [6,16] B.length (fun g v i wr => ∃ (j:Nat) (A:List ByteArray),j≤B.length∧g=B.length - j∧i = .int .i64 (j:Int)∧A.length=j∧Hid (dgs (clk k) L (B.take j)=some A)∧OwnS wr w.heap.size v A∧Below w.heap.size w wr)
 case atStart =>
  go_light
  exact ⟨0,[],Nat.zero_le _,rfl,rfl,rfl,rfl,HO.out,bal (Below.refl _ _) _⟩
 case round =>
  clear HM HO
  obtain ⟨j,A,hj,rfl,rfl,hA,HE,ho,hb⟩:=hrel
  by_cases hlt:j<B.length
  ·have hz:(j:Int)<(B.length:Int):=by omega
   have hz0:(0:Int)≤(j:Int):=Int.natCast_nonneg _
   obtain rfl:=(HF.out wr hb).2.addr (by omega)
   obtain ⟨c0,c1⟩:=(HF.out wr hb).2.cell j hlt
   obtain ⟨⟨h,q⟩,hx⟩ : ∃ x,B.getD j (0,0)=x:=⟨_,rfl⟩
   rw [hx] at c0 c1
   have hmem:(h,q)∈B:=by rw [← hx,List.getD_eq_getElem?_getD,List.getElem?_eq_getElem hlt]; exact List.getElem_mem _
   have htk:B.take (j+1)=B.take j++[(h,q)]:=by
    rw [List.take_add_one,← hx,List.getD_eq_getElem?_getD,List.getElem?_eq_getElem hlt]; rfl
   have hfit:=(HF.out wr hb).2.fit _ hmem
   cases hv:ff (clk k) L h q with
   | none =>
    have HD:Hid (∀ W,Below w.heap.size w W→Calls Tryz.prog 182 #[.pointer (some ⟨m+1,0,none⟩),.agg #[.int .i64 h,.int .u64 (q:Int)]] W fun e w'=>e = .returned (.tuple #[.string ⟨#[]⟩,.bool false])∧Below W.heap.size W w'):=fun W hb =>
     fdigest_any W m k L (HF.out W hb).1 h q hfit ⟨#[]⟩ false (by show _∧_; rw [hv]; exact ⟨rfl,rfl⟩)
    have HN:Hid (dgs (clk k) L B=none):=dgs_none (b:=(h,q)) hv hmem
    clear HE HF hx hmem htk hfit hv ho hlt hA
    go_wp2_with (go_at_call 182; with_reducible refine (HD.out _ (bal hb _)).mono ?_; rintro e w1 ⟨rfl,hb1⟩)
    go_ret2
    exact ⟨bnext (bal hb _) hb1,.inl ⟨HN.out,rfl⟩⟩
   | some x =>
    have HD:Hid (∀ W,Below w.heap.size w W→Calls Tryz.prog 182 #[.pointer (some ⟨m+1,0,none⟩),.agg #[.int .i64 h,.int .u64 (q:Int)]] W fun e w'=>e = .returned (.tuple #[.string x,.bool true])∧Below W.heap.size W w'):=fun W hb =>
     fdigest_any W m k L (HF.out W hb).1 h q hfit x true (by show _∧_; rw [hv]; exact ⟨rfl,rfl⟩)
    have HN:Hid (dgs (clk k) L (B.take (j+1))=some (A++[x])):=by rw [htk]; exact dgs_app hv HE.out
    have HZ:Hid (x.size≤9223372036854775807):=by show x.size≤_; rw [ff_size (clk_le k) hv]; have:=clk_le k; omega
    have HO:=hide ho
    have HA:=hide hA
    clear HE HF hx hmem htk hfit hv ho hA
    go_wp2_with (first
     | (go_at_call 182; with_reducible refine (HD.out _ (bal hb _)).mono ?_; rintro e w1 ⟨rfl,hb1⟩)
     | (at_builtin; refine wpList_append_S _ rfl _ _ rfl w.heap.size _ A rfl (own_al (own_next (own_al HO.out _) hb1 (Nat.le_refl _)) _) (some ⟨w1.heap.size,0,none⟩) w1.heap.size 0 1 [x] rfl (rds_one w1 x HZ.out) (fun h=>by cases h) ?c1 ?c2 ?_))
    case c1=>have:=HX.out; have:=HA.out; simp; omega
    case c2=>have:=(bnext (bal hb _) hb1).size; simp; omega
    intro v2 w3 h3 hb3
    have HY:Hid (OwnS w3 w.heap.size v2 (A++[x])∧Below w.heap.size w w3):=⟨h3,(bal (bnext (bal hb _) hb1) _).trans hb3⟩
    clear h3 hb3 hb1 hb
    go_wp2
    go_roundg (B.length - (j+1))
    case rel =>
     go_light
     exact ⟨j+1,A++[x],by omega,rfl,by go_num,by have:=HA.out; simp; omega,HN,HY.out.1,HY.out.2⟩
    case measure=>go_light; omega
  ·obtain rfl:j=B.length:=by omega
   have hz : ¬ ((B.length:Int)<(B.length:Int)):=by omega
   have HN:Hid (dgs (clk k) L B=some A):=by have:=HE.out; rwa [List.take_length] at this
   clear HE hlt HF
   go_wp2
   go_ret2
   exact ⟨hb,.inr ⟨A,HN.out,_,rfl,ho⟩⟩
theorem u64_id (x:Int) (h0:0≤x) (h1:x<18446744073709551616):IntKind.u64.wrap x=x:=by
 simp [IntKind.wrap,IntKind.signed,IntKind.bits]; omega
theorem trail_any (n:Nat) (w:World) (hn:n<2^64) (t:Nat) (ht:tr 64 n=t) :
  Calls Tryz.prog 253 #[.int .u64 n] w fun e w'=>e = .returned (.int .i64 (t:Int))∧w'=w:=by
 subst ht
 go_enter Tryz.func253,Tryz.ntmps253
 go_wp2
 go_loopg [4] 64 (fun g i wr => ∃ k:Nat,k≤64∧g=64 - k∧i = .int .i64 k∧k+tr (64 - k) (n / 2^k)=tr 64 n∧w=wr)
 case atStart =>
  go_light
  exact ⟨0,Nat.zero_le _,rfl,rfl,by simp,rfl⟩
 case round =>
  obtain ⟨k,hk,rfl,rfl,hs,rfl⟩:=hrel
  have hk0:(0:Int)≤(k:Int):=Int.natCast_nonneg _
  by_cases hlt:k<64
  ·have hk8:(k:Int)<64:=by omega
   have HC:=Pl.isOne_any n k w hn hlt
   have HS:=tr_step k n hlt
   by_cases hb:n / 2^k % 2=1
   ·rw [if_pos hb] at HS
    rw [decide_eq_true hb] at HC
    go_wp2_with (go_at_call 224; refine HC.mono ?_; rintro e w' ⟨rfl,rfl⟩)
    go_ret
    refine ⟨?_,rfl⟩
    rw [← hs,HS]
    rfl
   ·rw [if_neg hb] at HS
    rw [decide_eq_false hb] at HC
    go_wp2_with (go_at_call 224; refine HC.mono ?_; rintro e w' ⟨rfl,rfl⟩)
    go_roundg (64 - (k+1))
    case rel =>
     go_light
     exact ⟨k+1,by omega,rfl,by go_num,by omega,rfl⟩
    case measure=>go_light; omega
  ·obtain rfl:k=64:=by omega
   clear hk hlt
   go_wp2
   go_ret
   refine ⟨?_,rfl⟩
   rw [← hs]
   rfl
theorem own_one (w:World) (s:ByteArray):OwnS (w.alloc (.cells #[.string s] 9)) w.heap.size (.slice (some ⟨w.heap.size,0,none⟩) 1 1) [s] :=
 ⟨rfl,.inr ⟨w.heap.size,1,#[.string s],rfl,Nat.le_refl _,heap_alloc_new w _,Nat.le_refl _,by unfold maxLen; omega,rfl,rfl⟩⟩
theorem own_mono {w:World} {B B':Nat} {v:Value} {l:List ByteArray} (h:OwnS w B v l) (hB:B'≤B):OwnS w B' v l:=by
 obtain ⟨h1,h2⟩:=h
 refine ⟨h1,?_⟩
 rcases h2 with h2 | ⟨g,cap,cur,hv,hg,h3⟩
 ·exact .inl h2
 ·exact .inr ⟨g,cap,cur,hv,by omega,h3⟩
structure Chf (m:Nat) (w w':World):Prop where
 below:Below m w w'
 block : ∀ q,q<w.heap.size→q≠m→q≠m+1→w'.heap[q]? = w.heap[q]?
theorem Chf.refl (m:Nat) (w:World):Chf m w w:=⟨Below.refl _ _,fun _ _ _ _=>rfl⟩
theorem Chf.of {m:Nat} {w w':World} (h:Below w.heap.size w w') (hm:m<w.heap.size):Chf m w w':=⟨h.mono (Nat.le_of_lt hm),fun q hq _ _=>h.block q hq⟩
theorem Chf.trans {m:Nat} {w w1 w2:World} (h:Chf m w w1) (h2:Chf m w1 w2):Chf m w w2 :=
 ⟨h.below.trans h2.below,fun q hq x y=>(h2.block q (Nat.lt_of_lt_of_le hq h.below.size) x y).trans (h.block q hq x y)⟩
theorem Chf.size {m:Nat} {w w':World} (h:Chf m w w'):w.heap.size≤w'.heap.size:=h.below.size
theorem Chf.next {m:Nat} {w w1 w2:World} (h:Chf m w w1) (h2:Below w1.heap.size w1 w2) (hm:m<w.heap.size):Chf m w w2:=h.trans (Chf.of h2 (Nat.lt_of_lt_of_le hm h.size))
theorem Chf.set {m b:Nat} {w w':World} (h:Chf m w w') (i:Nat) (v:Value) (hb:b=m+1∨w.heap.size≤b) (hm:m<w.heap.size):Chf m w (w'.setCell ⟨b,i,none⟩ v):=by
 refine ⟨h.below.setCell (p:=⟨b,i,none⟩) (by show m≤b; omega) v,fun q hq x y => ?_⟩
 rw [← h.block q hq x y]
 exact Below.heap_setCell _ _ _ _ (by show q≠b; omega)
theorem Chf.put {m:Nat} {w w':World} (h:Chf m w w') (o:Obj):Chf m w (ChangeMaps.setBlock w' m o):=by
 refine ⟨⟨h.below.os,h.below.tape,h.below.output,?_,fun q hq => ?_⟩,fun q hq x _ => ?_⟩
 ·simp [ChangeMaps.setBlock,h.below.size]
 ·rw [← h.below.block q hq]
  simp [ChangeMaps.setBlock,show ¬ m=q by omega]
 ·rw [← h.block q hq x (by assumption)]
  simp [ChangeMaps.setBlock,show ¬ m=q by omega]
theorem set_other {m q:Nat} {w:World} (o:Obj) (h:q≠m):(ChangeMaps.setBlock w m o).heap[q]? = w.heap[q]? := by
 simp [ChangeMaps.setBlock,show ¬ m=q by omega]
theorem tb_ne {w:World} {m g:Nat} {k x:Int} {L:List ByteArray} (h0:w.cell? ⟨g,0,none⟩=some (.int .u32 x)) (hF:Frs w m k L):g≠m∧g≠m+1:=by
 constructor
 ·rintro rfl
  obtain ⟨es,c,hm,_⟩:=hF.mp
  simp [World.cell?,hm] at h0
 ·rintro rfl
  rw [hF.c0] at h0
  cases h0
theorem Tb.chf {w w':World} {m:Nat} {k:Int} {L:List ByteArray} (ht:Tb w) (hF:Frs w m k L) (hc:Chf m w w'):Tb w':=by
 have hlt:=range_lt ht.rs (cW_ne (by rw [RS_len]; decide))
 obtain ⟨x,h0⟩ : ∃ x,w.cell? ⟨3,0,none⟩=some (.int .u32 x):=by
  have hx:0<RS.length:=by rw [RS_len]; decide
  exact ⟨RS[0],ht.rs 0 _ (by simp [cW,hx])⟩
 obtain ⟨hne,hne2⟩:=tb_ne h0 hF
 refine ⟨fun j u hu => ?_⟩
 rw [← ht.rs j u hu]
 have:=hc.block _ hlt hne hne2
 simp only [World.cell?,this]
def sm (x:ByteArray):ByteArray:=dg 32 (leafT x)
def smL (L:List ByteArray):List ByteArray:=L.map sm
theorem sm_size (x:ByteArray):(sm x).size=32:=dg_size (Nat.le_refl _) _
theorem sumof_any (w:World) (ht:Tb w) (x:ByteArray) (hx:x.size≤1048576) (s:ByteArray) (hs:sm x=s) :
  Calls Tryz.prog 85 #[.string x] w fun e w'=>e = .returned (.string s)∧Below w.heap.size w w':=by
 have HLf:Hid (Calls Tryz.prog 145 #[.int .i64 32,.string x] w fun e w'=>e = .returned (.string s)∧Below w.heap.size w w'):=leaf_any w ht 32 x (by omega) s hs
 clear ht hx hs
 go_enter Tryz.func85,Tryz.ntmps85
 go_wp2_with (go_at_call 145; (with_reducible refine HLf.out.mono ?_); rintro e w1 ⟨rfl,hb⟩)
 go_ret
 exact ⟨rfl,hb⟩
def NxQ (w:World) (k:Nat) (L:List ByteArray) (x:ByteArray) (e:Ending) (w':World):Prop :=
 ∃ vm r' vr',e = .returned (.agg #[.string x,.string (sm x),vm,.pointer (some ⟨r',0,none⟩)])∧OwnS w' w.heap.size vm (mdL k L x)∧Kp.Rg w' r' vr' (k:Int) (L.length+1) (pkL k (L++[x]))∧w.heap.size≤r'∧(∀ g,vr'.ownBlock=some g→w.heap.size≤g)∧Below w.heap.size w w'
theorem dg_cut (k:Nat) (hk:k≤32) (t:ByteArray):(dg 32 t).extract 0 k=dg k t:=by
 unfold dg
 rw [ByteArray.extract_extract,Nat.zero_add,Nat.zero_add,Nat.min_eq_left hk]
theorem sm_cut (k:Nat) (hk:k≤32) (L:List ByteArray) (x:ByteArray):(sm x).extract 0 k=nd k (L++[x]) 0 L.length:=by
 unfold sm
 rw [dg_cut k hk,nd,List.getD_eq_getElem?_getD,List.getElem?_concat_length]; rfl
theorem fe_pk {k n:Nat} {P:List ByteArray} {w:World} {r:Nat} {v:Value} (h:Kp.Rg w r v (k:Int) n P) (hk:clk (k:Int)=k):Kp.fe (k:Int) n P=0:=by
 have h1:=h.k1
 have h2:=h.k2
 have hn:=h.hn
 unfold Kp.fe
 rw [if_neg (by omega),if_neg (by omega),if_neg]
 rw [h.hl,hts_ones hn]
 refine fun q=>q.elim (fun q=>q rfl) (fun q=>q fun s hs => ?_)
 have:=h.hs s hs
 omega
theorem rg_set {w:World} {r p i:Nat} {v x:Value} {k:Int} {n:Nat} {P:List ByteArray} (h:Kp.Rg w r v k n P) (h1:r≠p) (h2 : ∀ g,v.ownBlock=some g→g≠p):Kp.Rg (w.setCell ⟨p,i,none⟩ x) r v k n P :=
 ⟨(Below.heap_setCell _ _ _ _ h1).trans h.blk,St.row_keep h.own (fun g hg=>Below.heap_setCell _ _ _ _ (h2 g hg)),h.k1,h.k2,h.hn,h.hl,h.hs⟩
theorem four_put {w:World} {b:Nat} {x0 x1 x2 x3:Value} {T:TypeId} (h:w.heap[b]? = some (.cells #[x0,x1,x2,x3] T (0,0))) (y0 y1 y2 y3:Value):((((w.setCell ⟨b,0,none⟩ y0).setCell ⟨b,1,none⟩ y1).setCell ⟨b,2,none⟩ y2).setCell ⟨b,3,none⟩ y3).heap[b]? = some (.cells #[y0,y1,y2,y3] T (0,0)) :=
 heap_setCell_same _ b 3 _ _ y3 (heap_setCell_same _ b 2 _ _ y2 (heap_setCell_same _ b 1 _ _ y1 (heap_setCell_same w b 0 _ _ y0 h)))
theorem own_slice3 {w:World} {B:Nat} {v:Value} {l:List ByteArray} (h:OwnS w B v l) : ∃ ao n cap,v = .slice ao n cap:=by
 obtain ⟨_,h2⟩:=h
 rcases h2 with ⟨rfl,_⟩ | ⟨g,cap,cur,rfl,_⟩
 ·exact ⟨_,_,_,rfl⟩
 ·exact ⟨_,_,_,rfl⟩
set_option maxRecDepth 100000 in
set_option maxHeartbeats 4000000 in
theorem next_any (w:World) (ht:Tb w) (a m r:Nat) (vr:Value) (k:Nat) (L:List ByteArray) (hF:Frs w m (k:Int) L) (hR:Kp.Rg w r vr (k:Int) L.length (pkL k L)) (hc:clk (k:Int)=k)
  (c3:w.cell? ⟨a,3,none⟩=some (.pointer (some ⟨m+1,0,none⟩))) (c4:w.cell? ⟨a,4,none⟩=some (.pointer (some ⟨r,0,none⟩))) (x:ByteArray) (hx:x.size≤1048576) (hL:L.length<65536) :
  Calls Tryz.prog 95 #[.pointer (some ⟨a,0,none⟩),.string x] w (NxQ w k L x):=by
 have k1:(1:Int)≤(k:Int):=hF.k1
 have k2:(k:Int)≤32:=hF.k2
 have hax:=World.block_lt_of_cell? _ _ c3
 obtain ⟨s,hs⟩ : ∃ s,sm x=s:=⟨_,rfl⟩
 have hss:s.size=32:=by rw [← hs]; exact sm_size x
 obtain ⟨P,hP⟩ : ∃ P,pkL k L=P:=⟨_,rfl⟩
 rw [hP] at hR
 obtain ⟨w1,hw1⟩ : ∃ W,w.alloc (.cells #[.string ⟨#[]⟩,.string ⟨#[]⟩,.slice none 0 0,.pointer none] 175)=W:=⟨_,rfl⟩
 have u1:Below w.heap.size w w1:=by rw [← hw1]; exact bal (Below.refl _ _) _
 have k4:w1.heap[w.heap.size]? = some (.cells #[.string ⟨#[]⟩,.string ⟨#[]⟩,.slice none 0 0,.pointer none] 175 (0,0)):=by rw [← hw1]; exact heap_alloc_new w _
 have ht:=ht.next u1
 have hF:=hF.next u1 (Nat.le_refl _)
 have hR:=hR.next u1 (Nat.le_refl _)
 have c3:=(u1.cell (p:=⟨a,3,none⟩) hax).trans c3
 have c4:=(u1.cell (p:=⟨a,4,none⟩) hax).trans c4
 have hax:a<w1.heap.size:=Nat.lt_of_lt_of_le hax u1.size
 have hz1:w.heap.size<w1.heap.size:=(Array.getElem?_eq_some_iff.1 k4).1
 have HF:Hid (∀ W,Below w1.heap.size w1 W→W.cell? ⟨a,3,none⟩=some (.pointer (some ⟨m+1,0,none⟩))∧W.cell? ⟨a,4,none⟩=some (.pointer (some ⟨r,0,none⟩))):=fun W hW=>⟨(hW.cell (p:=⟨a,3,none⟩) hax).trans c3,(hW.cell (p:=⟨a,4,none⟩) hax).trans c4⟩
 have HS:Hid (∀ W,Below w1.heap.size w1 W→Calls Tryz.prog 85 #[.string x] W fun e w'=>e = .returned (.string s)∧Below w1.heap.size w1 w'):=fun W hW=>(sumof_any W (ht.next hW) x hx s hs).mono fun e w' z=>⟨z.1,bnext hW z.2⟩
 have HK:Hid (∀ W,Below w1.heap.size w1 W→Calls Tryz.prog 134 #[.pointer (some ⟨m+1,0,none⟩)] W fun e w'=>e = .returned (.int .i64 (k:Int))∧W=w'):=fun W hW=>(fstrength_any W m k L (hF.next hW (Nat.le_refl _))).mono fun e w' z=>⟨z.1,z.2.symm⟩
 have HZ:Hid (∀ W,Below w1.heap.size w1 W→Calls Tryz.prog 159 #[.pointer (some ⟨r,0,none⟩)] W fun e w'=>e = .returned (.int .u64 (L.length:Int))∧Below w1.heap.size w1 w'∧Below W.heap.size W w'):=fun W hW=>(Kp.size_any W r vr k L.length P (hR.next hW (Nat.le_refl _))).mono fun e w' z=>⟨z.1,bnext hW z.2,z.2⟩
 have HP:Hid (∀ W,Below w1.heap.size w1 W→Calls Tryz.prog 160 #[.pointer (some ⟨r,0,none⟩)] W fun e w' => ∃ u,e = .returned u∧OwnS w' w1.heap.size u P∧Below w1.heap.size w1 w'):=fun W hW=>(Kp.rpeaks_own W r vr k L.length P (hR.next hW (Nat.le_refl _))).mono fun e w' z=>by
  obtain ⟨u,z1,z2,z3⟩:=z
  exact ⟨u,z1,own_mono z2 hW.size,bnext hW z3⟩
 have HM:Hid (∀ W u,Below w1.heap.size w1 W→OwnS W w1.heap.size u P→Calls Tryz.prog 94 #[.int .i64 (k:Int),.int .u64 (L.length:Int),u] W fun e w' => ∃ p v,e = .returned (.tuple #[.pointer (some ⟨p,0,none⟩),.int .i64 0])∧Kp.Rg w' p v (k:Int) L.length P∧w1.heap.size≤p∧(∀ g,v.ownBlock=some g→w1.heap.size≤g)∧Below w1.heap.size w1 w'):=fun W u hW ho=>by
  obtain ⟨ao,b,cap,rfl,hr,_,hno⟩:=owns_rds ho (fun y hy=>by have:=hR.small y hy; omega)
  have hsh:=hR.short
  refine (Kp.from_any W k L.length (by omega) ao b 0 cap P hr hno (by omega) 0 (fe_pk hR hc)).mono fun e w' z => ?_
  obtain ⟨p,v,z1,z2,z3,z4,z5⟩:=z.ok
  exact ⟨p,v,z1,z2,Nat.le_trans hW.size z3,fun g hg=>Nat.le_trans hW.size (z4 g hg),bnext hW z5⟩
 have HA:Hid (∀ W p v,Below w1.heap.size w1 W→w1.heap.size≤p→(∀ g,v.ownBlock=some g→w1.heap.size≤g)→Kp.Rg W p v (k:Int) L.length P→Calls Tryz.prog 161 #[.pointer (some ⟨p,0,none⟩),.string (s.extract 0 k)] W fun e w' => ∃ vm vr',e = .returned (.tuple #[vm,.int .i64 0])∧OwnS w' w1.heap.size vm (mdL k L x)∧Kp.Rg w' p vr' (k:Int) (L.length+1) (pkL k (L++[x]))∧(∀ g,vr'.ownBlock=some g→w1.heap.size≤g)∧Below w1.heap.size w1 w'):=fun W p v hW hp hv hr=>by
  have hd:=Kp.did_list k1 k2 (L++[x]) 0 L.length L.length (by rw [Nat.pow_zero,Nat.one_mul]) (by decide) (by rw [Nat.pow_zero]; omega)
  rw [hc,pkL_snoc,hP,show L.length+2^0=L.length+1 from rfl,show ((0:Nat):Int)=0 from rfl,← sm_cut k (by omega) L x,hs] at hd
  have hd2:Hid (er (k:Int) L.length 0 (s.extract 0 k)=0∧nxN (k:Int) L.length 0 (s.extract 0 k)=L.length+1∧nxP (k:Int) L.length P 0 (s.extract 0 k)=pkL k (L++[x])∧an (k:Int) L.length P 0 (s.extract 0 k)=mdL k L x):=by
   obtain ⟨d1,d2,d3,d4⟩:=hd.out
   refine ⟨d1,d2,?_,?_⟩
   ·rw [d3]; unfold pkL; rw [List.length_append]; rfl
   ·rw [d4]; unfold mdL
    rw [show 40 - 0=40 from rfl]
    refine List.map_congr_left fun j _ => ?_
    rw [Nat.zero_add]
  refine (Kp.add_any W (ht.next hW) p v k L.length P hr (s.extract 0 k) 0 _ _ _ hd2).mono fun e w' z => ?_
  obtain ⟨vm,v',z1,z2⟩:=z
  refine ⟨vm,v',z1,own_mono z2.own hW.size,z2.rg,fun g hg => ?_,hW.trans (z2.ch.below.mono hp)⟩
  rcases z2.new with e | e
  ·rw [e] at hg; exact hv g hg
  ·exact Nat.le_trans hW.size (e g hg)
 have hk0:(0:Int)≤(k:Int):=by omega
 have hks:(k:Int)≤(s.size:Int):=by omega
 have HE:Hid (∀ W va vn vc r' vr',Below w1.heap.size w1 W→OwnS W w1.heap.size (.slice va vn vc) (mdL k L x)→Kp.Rg W r' vr' (k:Int) (L.length+1) (pkL k (L++[x]))→w1.heap.size≤r'→(∀ g,vr'.ownBlock=some g→w1.heap.size≤g) →
   NxQ w k L x (.returned (.agg #[.string x,.string s,.slice va vn vc,.pointer (some ⟨r',0,none⟩)])) ((((W.setCell ⟨w.heap.size,0,none⟩ (.string x)).setCell ⟨w.heap.size,1,none⟩ (.string s)).setCell ⟨w.heap.size,2,none⟩ (.slice va vn vc)).setCell ⟨w.heap.size,3,none⟩ (.pointer (some ⟨r',0,none⟩)))):=fun W va vn vc r' vr' g1 g2 g3 g4 g5=>by
  rw [← hs]
  have h1:r'≠w.heap.size:=by omega
  have h2 : ∀ g,vr'.ownBlock=some g→g≠w.heap.size:=fun g hg=>by have:=g5 g hg; omega
  have hb:Below w.heap.size w W:=u1.trans (g1.mono u1.size)
  exact ⟨_,r',vr',rfl,own_mono (Kp.own_setp (Kp.own_setp (Kp.own_setp (Kp.own_setp g2 hz1) hz1) hz1) hz1) u1.size,rg_set (rg_set (rg_set (rg_set g3 h1 h2) h1 h2) h1 h2) h1 h2,Nat.le_trans u1.size g4,fun g hg=>Nat.le_trans u1.size (g5 g hg),
   (((hb.setCell (p:=⟨w.heap.size,0,none⟩) (Nat.le_refl _) _).setCell (p:=⟨w.heap.size,1,none⟩) (Nat.le_refl _) _).setCell (p:=⟨w.heap.size,2,none⟩) (Nat.le_refl _) _).setCell (p:=⟨w.heap.size,3,none⟩) (Nat.le_refl _) _⟩
 have HK4:Hid (∀ W,Below w1.heap.size w1 W→W.heap[w.heap.size]? = some (.cells #[.string ⟨#[]⟩,.string ⟨#[]⟩,.slice none 0 0,.pointer none] 175 (0,0))):=fun W hW=>(hW.block _ hz1).trans k4
 have u:Below w1.heap.size w1 w1.drew:=(Below.refl _ _).drew
 clear ht hF hR hP hx hs k4 u1 hL k1 k2 hss hc
 go_enter Tryz.func95,Tryz.ntmps95
 go_upto_region 1 with (fail)
 go_region_held3 (fun Z=>Z.cell? ⟨a,3,none⟩=some (.pointer (some ⟨m+1,0,none⟩))) (first | assumption | (with_reducible exact (HF.out _ u).1)) (first
  | (go_at_call 85; (with_reducible refine (HS.out _ u).mono ?_); rintro e w2 ⟨rfl,u⟩)
  | (go_at_call 134; (with_reducible refine (HK.out _ u).mono ?_); rintro e w3 ⟨rfl,rfl⟩))
 all_goals
  obtain ⟨d3,d4⟩:=HF.out _ u
  replace u:Below w1.heap.size w1 w2.drew:=u.drew
  go_upto_region 2 with (fail)
  go_region_held3 (fun Z=>Z.cell? ⟨a,4,none⟩=some (.pointer (some ⟨r,0,none⟩))) (first | assumption | (with_reducible exact (HF.out _ u).2)) (first
   | (go_at_call 159; (with_reducible refine (HZ.out _ u).mono ?_); rintro e w4 ⟨rfl,u,-⟩)
   | (go_at_call 160; (with_reducible refine (HP.out _ u).mono ?_); rintro e w5 ⟨vp,rfl,op,u⟩)
   | (go_at_call 94; (with_reducible refine (HM.out _ _ u op).mono ?_); rintro e w6 ⟨p,v,rfl,hr,hp,hv,u⟩))
 all_goals
  go_upto_region 4 with (go_at_call 161; (with_reducible refine (HA.out _ _ _ u hp hv hr).mono ?_); rintro e w7 ⟨vm,vr',rfl,om,hr7,hv7,u⟩)
  obtain ⟨va,vn,vc,rfl⟩:=own_slice3 om
  have k7:=HK4.out _ u
  have e0:w7.cell? ⟨w.heap.size,0,none⟩=some (.string ⟨#[]⟩):=by rw [cell_of_row w7 _ 0 _ _ (0,0) k7]; rfl
  have e1:w7.cell? ⟨w.heap.size,1,none⟩=some (.string ⟨#[]⟩):=by rw [cell_of_row w7 _ 1 _ _ (0,0) k7]; rfl
  have e2:w7.cell? ⟨w.heap.size,2,none⟩=some (.slice none 0 0):=by rw [cell_of_row w7 _ 2 _ _ (0,0) k7]; rfl
  have e3:w7.cell? ⟨w.heap.size,3,none⟩=some (.pointer none):=by rw [cell_of_row w7 _ 3 _ _ (0,0) k7]; rfl
  have z0:=frozen_of_row w7 _ 0 _ _ k7
  have z1:=frozen_of_row w7 _ 1 _ _ k7
  have z2:=frozen_of_row w7 _ 2 _ _ k7
  have z3:=frozen_of_row w7 _ 3 _ _ k7
  go_wp2
  have HN:=HE.out w7 va vn vc p vr' u om hr7 hp hv7
  have q:=four_put k7 (.string x) (.string s) (.slice va vn vc) (.pointer (some ⟨p,0,none⟩))
  have q0:=cell_of_row _ w.heap.size 0 _ _ (0,0) q
  have q1:=cell_of_row _ w.heap.size 1 _ _ (0,0) q
  have q2:=cell_of_row _ w.heap.size 2 _ _ (0,0) q
  have q3:=cell_of_row _ w.heap.size 3 _ _ (0,0) q
  simp at q0 q1 q2 q3
  generalize (((w7.setCell ⟨w.heap.size,0,none⟩ (.string x)).setCell ⟨w.heap.size,1,none⟩ (.string s)).setCell ⟨w.heap.size,2,none⟩ (.slice va vn vc)).setCell ⟨w.heap.size,3,none⟩ (.pointer (some ⟨p,0,none⟩))=W9 at *
  exact bodyPost_ret (v := .agg #[.string x,.string s,.slice va vn vc,.pointer (some ⟨p,0,none⟩)]) (by simp [results,Tryz.results95,go_sem,q0,q1,q2,q3]) rfl HN
end Go.Proofs.YtoblgjledefdbaaGreatDoor
