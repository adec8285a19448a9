/- Own work. -/
import Derived.BigQuiet
import Derived.WalkMore
import Derived.Deep.OwnRows
import Derived.Test.YtoblgjledefdbaaGreatDoorQa06
import Derived.Test.YtoblgjledefdbaaGreatDoorQa30
namespace Go.Proofs.YtoblgjledefdbaaGreatDoor.Cv
open Pl
open Go.RowKit
attribute [local go_sem ↓] Go.wp_at_zero Go.wp_at_succ
def errR (lo hi n:Nat):Nat:=if 2^40<n then 30 else if n<hi then 31 else if hi<lo then 41 else 0
def covR (lo hi n:Nat):List (Nat×Nat):=if errR lo hi n=0 then cov lo hi else []
theorem ia_new (w:World):IA w.heap.size (fun _=>False) [] (w.alloc (.cells #[.slice none 0 0] 187)) :=
 ⟨⟨.slice none 0 0,heap_new _ _,World.ownsRow_nil _ _ _ _,fun _ _ h=>h⟩,fun h=>h⟩
theorem range_err (lo hi n e:Nat) (w:World) (he:errR lo hi n=e) (h0:e≠0) :
  Calls Tryz.prog 181 #[.int .u64 (lo:Int),.int .u64 (hi:Int),.int .u64 (n:Int)] w fun x w' => ∃ v,x = .returned (.tuple #[v,.int .i64 (e:Int)])∧OwnB w' w.heap.size v []∧Below w.heap.size w w':=by
 unfold errR at he
 by_cases h1:2^40<n
 ·rw [if_pos h1] at he
  subst he
  have ht:decide ((1099511627776:Int)<(n:Int))=true:=decide_eq_true (by omega)
  clear h0 h1
  go_enter Tryz.func181,Tryz.ntmps181
  go_wp2
  go_ret2
  exact ⟨_,rfl,World.ownsRow_nil _ _ _ _,Below.refl _ _⟩
 ·rw [if_neg h1] at he
  have ht:decide ((1099511627776:Int)<(n:Int))=false:=decide_eq_false (by omega)
  by_cases h2:n<hi
  ·rw [if_pos h2] at he
   subst he
   have ht2:(n:Int)<(hi:Int):=by omega
   clear h0 h1
   go_enter Tryz.func181,Tryz.ntmps181
   go_wp2
   go_ret2
   exact ⟨_,rfl,World.ownsRow_nil _ _ _ _,Below.refl _ _⟩
  ·rw [if_neg h2] at he
   have ht2 : ¬ (n:Int)<(hi:Int):=by omega
   by_cases h3:hi<lo
   ·rw [if_pos h3] at he
    subst he
    have ht3:(hi:Int)<(lo:Int):=by omega
    clear h0 h1
    go_enter Tryz.func181,Tryz.ntmps181
    go_wp2
    go_ret2
    exact ⟨_,rfl,World.ownsRow_nil _ _ _ _,Below.refl _ _⟩
   ·rw [if_neg h3] at he
    exact absurd he.symm h0
theorem range_ok (lo hi n:Nat) (w:World) (hn:n≤2^40) (hh:hi≤n) (hl:lo≤hi) :
  Calls Tryz.prog 181 #[.int .u64 (lo:Int),.int .u64 (hi:Int),.int .u64 (n:Int)] w fun x w' => ∃ v,x = .returned (.tuple #[v,.int .i64 0])∧OwnB w' w.heap.size v (zl (cov lo hi))∧Below w.heap.size w w':=by
 have ht:decide ((1099511627776:Int)<(n:Int))=false:=decide_eq_false (by omega)
 have ht2 : ¬ (n:Int)<(hi:Int):=by omega
 have ht3 : ¬ (hi:Int)<(lo:Int):=by omega
 have ht2' : ¬ n<hi:=by omega
 have ht3' : ¬ hi<lo:=by omega
 have HE:=each_any (.inl rfl) (give_range w.heap.size) (fun _=>False) [] lo hi (w.alloc (.cells #[.slice none 0 0] 187)) (ia_new w) (fun _ h=>h.elim) (by decide) hl (by omega)
 clear hn hh hl
 go_enter Tryz.func181,Tryz.ntmps181
 go_upto_region 9 with ((go_at_call 276; with_reducible refine HE.mono ?_; rintro e w1 ⟨rfl,hI,hb,_⟩))
 obtain ⟨⟨v,h1,h2,_⟩,_⟩:=hI
 have c0:=cell_of_one h1
 obtain ⟨ao,m,c,rfl⟩:=own_slice h2
 have HF:Hid (OwnB w1 w.heap.size (.slice ao m c) (zl (cov lo hi))∧Below w.heap.size w w1):=⟨by
  have:=h2.mono (base':=w.heap.size) (by omega)
  simpa using this,((Below.refl _ w).alloc (Nat.le_refl _) _).trans hb⟩
 clear h1 h2 hb HE
 go_wp2
 go_ret2
 exact ⟨_,rfl,HF.out.1,HF.out.2⟩
theorem range_any (lo hi n:Nat) (w:World) :
  Calls Tryz.prog 181 #[.int .u64 (lo:Int),.int .u64 (hi:Int),.int .u64 (n:Int)] w fun x w' => ∃ v,x = .returned (.tuple #[v,.int .i64 (errR lo hi n:Nat)])∧OwnB w' w.heap.size v (zl (covR lo hi n))∧Below w.heap.size w w':=by
 by_cases h:errR lo hi n=0
 ·have h':=h
  unfold errR at h'
  split at h'
  ·cases h'
  ·split at h'
   ·cases h'
   ·split at h'
    ·cases h'
    ·rw [h,covR,if_pos h]
     exact range_ok lo hi n w (by omega) (by omega) (by omega)
 ·rw [covR,if_neg h]
  exact range_err lo hi n _ w rfl h
theorem mountains_any (n:Nat) (w:World) :
  Calls Tryz.prog 105 #[.int .u64 (n:Int)] w fun x w' => ∃ v,x = .returned (.tuple #[v,.int .i64 (errR 0 n n:Nat)])∧OwnB w' w.heap.size v (zl (covR 0 n n))∧Below w.heap.size w w':=by
 have HR:Calls Tryz.prog 181 #[.int .u64 0,.int .u64 (n:Int),.int .u64 (n:Int)] w fun x w' => ∃ v,x = .returned (.tuple #[v,.int .i64 (errR 0 n n:Nat)])∧OwnB w' w.heap.size v (zl (covR 0 n n))∧Below w.heap.size w w':=range_any 0 n n w
 generalize errR 0 n n=e at *
 generalize covR 0 n n=L at *
 go_enter Tryz.func105,Tryz.ntmps105
 go_wp2_with (go_at_call 181; with_reducible refine HR.mono ?_; rintro x w1 ⟨v,rfl,h1,h2⟩)
 go_ret2
 exact ⟨_,rfl,h1,h2⟩
end Go.Proofs.YtoblgjledefdbaaGreatDoor.Cv
namespace Go.Proofs.YtoblgjledefdbaaGreatDoor
open Go.RowKit
attribute [local go_sem ↓] Go.wp_at_zero Go.wp_at_succ
structure Frs (w:World) (m:Nat) (k:Int) (L:List ByteArray):Prop where
 blk:w.heap[m+1]? = some (.cells #[.int .i64 k,.int .u64 (L.length:Int),.map (some m)] 172 (0,0))
 mp:Mp w m (ff (clk k) L)
 k1:1≤k
 k2:k≤32
 hn:L.length≤65536
section
variable {w W:World} {m:Nat} {k:Int} {L:List ByteArray}
theorem Frs.lt (h:Frs w m k L):m+1<w.heap.size:=(Array.getElem?_eq_some_iff.1 h.blk).1
theorem Frs.c0 (h:Frs w m k L):w.cell? ⟨m+1,0,none⟩=some (.int .i64 k):=by rw [cell_of_row w (m+1) 0 _ _ (0,0) h.blk]; rfl
theorem Frs.c1 (h:Frs w m k L):w.cell? ⟨m+1,1,none⟩=some (.int .u64 (L.length:Int)):=by rw [cell_of_row w (m+1) 1 _ _ (0,0) h.blk]; rfl
theorem Frs.c2 (h:Frs w m k L):w.cell? ⟨m+1,2,none⟩=some (.map (some m)):=by rw [cell_of_row w (m+1) 2 _ _ (0,0) h.blk]; rfl
theorem Frs.fz (h:Frs w m k L) (j:Nat):w.frozen? ⟨m+1,j,none⟩=false:=frozen_of_row w (m+1) j _ _ h.blk
theorem Frs.same (h:Frs w m k L) (h0:W.heap[m]? = w.heap[m]?) (h1:W.heap[m+1]? = w.heap[m+1]?):Frs W m k L:=⟨h1.trans h.blk,h.mp.same h0,h.k1,h.k2,h.hn⟩
theorem Frs.next {B:Nat} (h:Frs w m k L) (hb:Below B w W) (hB:w.heap.size≤B):Frs W m k L :=
 h.same (hb.block m (by have:=h.lt; omega)) (hb.block (m+1) (by have:=h.lt; omega))
end
theorem ff_nil (c:Nat):(fun _ _=>none)=ff c []:=by
 funext h k
 rw [ff,if_neg]
 rintro ⟨_,e⟩
 have:=Nat.two_pow_pos h.toNat
 have:0<(k+1) * 2^h.toNat:=Nat.mul_pos (by omega) this
 simp at e
 omega
theorem fnew_ok (w:World) (k:Int) (h1:1≤k) (h2:k≤32) :
  Calls Tryz.prog 43 #[.int .i64 k] w fun e w'=>e = .returned (.tuple #[.pointer (some ⟨w.heap.size+1,0,none⟩),.int .i64 0])∧Frs w' w.heap.size k []∧Below w.heap.size w w':=by
 have HC:Hid (∀ W,Calls Tryz.prog 91 #[.int .i64 k] W fun e w'=>e = .returned (.int .i64 0)∧W=w'):=fun W=>by
  have:=(check_any W k)
  rw [show chk k=0 by rw [chk,if_neg (by omega)]] at this
  exact this.mono fun _ _ h=>⟨h.1,h.2.symm⟩
 have hmm := @run_makeMap Tryz.prog
 have HK:=hide (And.intro h1 h2)
 clear h1 h2
 go_enter Tryz.func43,Tryz.ntmps43
 go_wp2_with (go_at_call 91; with_reducible refine (HC.out _).mono ?_; rintro e w1 ⟨rfl,rfl⟩)
 go_ret2
 refine ⟨rfl,⟨?_,?_,HK.out.1,HK.out.2,by simp⟩,bal (bal (Below.refl _ _) _) _⟩
 ·have:=heap_alloc_new (w.alloc (.map #[] 0)) (.cells #[.int .i64 k,.int .u64 0,.map (some w.heap.size)] 172)
  simpa using this
 ·rw [← ff_nil]
  refine (mp_new w).same ?_
  exact (MapKept.heap_alloc (w.alloc (.map #[] 0)) _).2 w.heap.size (by simp)
theorem fsize_any (w:World) (m:Nat) (k:Int) (L:List ByteArray) (hF:Frs w m k L) :
  Calls Tryz.prog 132 #[.pointer (some ⟨m+1,0,none⟩)] w fun e w'=>e = .returned (.int .u64 (L.length:Int))∧w'=w:=by
 have c1:=hF.c1
 clear hF
 go_enter Tryz.func132,Tryz.ntmps132
 go_wp2
 go_ret
 exact ⟨rfl,rfl⟩
theorem fstrength_any (w:World) (m:Nat) (k:Int) (L:List ByteArray) (hF:Frs w m k L) :
  Calls Tryz.prog 134 #[.pointer (some ⟨m+1,0,none⟩)] w fun e w'=>e = .returned (.int .i64 k)∧w'=w:=by
 have c0:=hF.c0
 clear hF
 go_enter Tryz.func134,Tryz.ntmps134
 go_wp2
 go_ret
 exact ⟨rfl,rfl⟩
theorem fdigest_any (w:World) (m:Nat) (k:Int) (L:List ByteArray) (hF:Frs w m k L) (h:Int) (b:Nat) (hf:Fitb h b) (s:ByteArray) (ok:Bool) (hs:Hid ((ff (clk k) L h b).getD ByteArray.empty=s∧(ff (clk k) L h b).isSome=ok)) :
  Calls Tryz.prog 182 #[.pointer (some ⟨m+1,0,none⟩),.agg #[.int .i64 h,.int .u64 (b:Int)]] w fun e w'=>e = .returned (.tuple #[.string s,.bool ok])∧Below w.heap.size w w':=by
 have HL : ∀ W:World,W.heap[m]? = w.heap[m]? → (Instr.lookup 170 (.map (some m)) (.agg #[.int .i64 h,.int .u64 (b:Int)]) true).run Tryz.prog W = .ok (.tuple #[.agg #[.string s],.bool ok]) W:=fun W hW=>by
  have:=(hF.mp.same hW).look hf true
  rw [hs.out.1,hs.out.2] at this
  exact this
 have HF:Hid (∀ W,Below w.heap.size w W→W.cell? ⟨m+1,2,none⟩=some (.map (some m))∧(Instr.lookup 170 (.map (some m)) (.agg #[.int .i64 h,.int .u64 (b:Int)]) true).run Tryz.prog W = .ok (.tuple #[.agg #[.string s],.bool ok]) W):=fun W hb =>
  ⟨(hF.next hb (Nat.le_refl _)).c2,HL W (hb.block m (by have:=hF.lt; omega))⟩
 clear hF hs hf HL
 go_enter Tryz.func182,Tryz.ntmps182
 go_upto_region 1 with (fail)
 obtain ⟨w1,hw1⟩ : ∃ w1,w.alloc (.cells #[.int .i64 h,.int .u64 (b:Int)] 249)=w1:=⟨_,rfl⟩
 have k0:w1.cell? ⟨w.heap.size,0,none⟩=some (.int .i64 h):=by rw [← hw1]; simp
 have k1:w1.cell? ⟨w.heap.size,1,none⟩=some (.int .u64 (b:Int)):=by rw [← hw1]; simp
 have hb1:Below w.heap.size w w1:=by rw [← hw1]; exact bal (Below.refl _ _) _
 have hz:w.heap.size<w1.heap.size:=by rw [← hw1]; simp
 obtain ⟨a1,a2⟩:=HF.out w1.drew hb1.drew
 obtain ⟨a3,a4⟩:=HF.out (w1.drew.alloc (.cells #[.string ⟨#[]⟩] 315)) (bal hb1.drew _)
 obtain ⟨a5,a6⟩:=HF.out (w1.alloc (.cells #[.string ⟨#[]⟩] 315)).drew (bal hb1 _).drew
 rw [hw1]
 clear hw1
 go_region
 all_goals
  go_wp2
  go_ret2
  exact ⟨rfl,(bal hb1 _).drew⟩
theorem wrap_u (x:Int) (h0:0≤x) (h1:x<18446744073709551616):IntKind.u64.wrap x=x:=by
 simp [IntKind.wrap,IntKind.signed,IntKind.bits]; omega
theorem RdS.take {w:World} {ao:Option Addr} {b off len:Nat} {ss:List ByteArray} (h:RdS w ao b off len ss) {n:Nat} (hn:n≤len):RdS w ao b off n (ss.take n):=by
 refine ⟨by rw [List.length_take,h.hl]; omega,fun h0=>h.ptr (by omega),fun j v hv => ?_,fun s hs=>h.sz s (List.mem_of_mem_take hs)⟩
 rw [List.map_take,List.getElem?_take] at hv
 split at hv
 ·exact h.rng j v hv
 ·cases hv
theorem small {c:Nat} (hc:c≤32) {L:List ByteArray} {h:Nat} : ∀ s∈pks c L h,s.size≤140737488351232:=fun s hs=>by rw [pks_size hc L h s hs]; omega
theorem chk_ok {k:Int} (h1:1≤k) (h2:k≤32):chk k=0:=by rw [chk,if_neg (by omega)]
structure Rt (w:World) (g n:Nat) (d:ByteArray):Prop where
 c0:w.cell? ⟨g,0,none⟩=some (.int .u64 (n:Int))
 c1:w.cell? ⟨g,1,none⟩=some (.string d)
 f0:w.frozen? ⟨g,0,none⟩=false
 f1:w.frozen? ⟨g,1,none⟩=false
theorem Rt.below {w w':World} {B g n:Nat} {d:ByteArray} (t:Rt w g n d) (hb:Below B w w') (hg:g<B):Rt w' g n d :=
 ⟨(hb.cell (p:=⟨g,0,none⟩) hg).trans t.c0,(hb.cell (p:=⟨g,1,none⟩) hg).trans t.c1,(hb.frozen (p:=⟨g,0,none⟩) hg).trans t.f0,(hb.frozen (p:=⟨g,1,none⟩) hg).trans t.f1⟩
theorem rt_new (w:World) (n:Nat) (d:ByteArray) (t:Nat):Rt (w.alloc (.cells #[.int .u64 (n:Int),.string d] t)) w.heap.size n d:=by
 refine ⟨?_,?_,?_,?_⟩ <;> simp
def rtD (c:Nat) (L:List ByteArray) (n:Nat):ByteArray:=dg c (rootT n (bagL c (pks c (L.take n) 41)))
theorem make_S (w:World) (n:Nat) (hn:n≤8796093022208):(Instr.makeSlice 22 (.int .i64 0) (.int .i64 (n:Int))).run Tryz.prog w = .ok (.slice (some ⟨w.heap.size,0,none⟩) 0 n) (w.alloc (.cells (madeCells #[.string ByteArray.empty] n) 9)):=by
 obtain ⟨i0,hi,hz0,hz1,hz2⟩:=info_parts Tryz.infoS
 have hr:=run_make (P:=Tryz.prog) w 22 9 i0 _ Tryz.underlying22 hi hz0 .i64 .i64 0 n (by omega) (by omega) (by rw [hz2]; omega) (by omega)
 simp only [Int.toNat_natCast,hz1,Nat.mul_one] at hr
 exact hr
theorem own_made (w:World) (n:Nat) (hn:n≤8796093022208):OwnS (w.alloc (.cells (madeCells #[.string ByteArray.empty] n) 9)) w.heap.size (.slice (some ⟨w.heap.size,0,none⟩) 0 n) [] :=
 ⟨rfl,.inr ⟨w.heap.size,n,_,rfl,Nat.le_refl _,heap_alloc_new w _,Nat.zero_le _,by unfold maxLen; omega,by rw [size_madeCells,Nat.mul_one],rfl⟩⟩
structure RdB (w:World) (ao:Option Addr) (g off n:Nat) (l:List (Int×Nat)):Prop where
 len:l.length=n
 addr:0<n→ao=some ⟨g,off,none⟩
 cell : ∀ j,j<n→w.cell? ⟨g,off+j * 2,none⟩=some (.int .i64 (l.getD j (0,0)).1)∧w.cell? ⟨g,off+j * 2+1,none⟩=some (.int .u64 ((l.getD j (0,0)).2:Nat))
 fit : ∀ b∈l,Fitb b.1 b.2
theorem RdB.below {w w':World} {ao:Option Addr} {g off n:Nat} {l:List (Int×Nat)} (r:RdB w ao g off n l) (h:Below w.heap.size w w'):RdB w' ao g off n l :=
 ⟨r.len,r.addr,fun j hj=>⟨(h.cell (p:=⟨g,off+j * 2,none⟩) (World.block_lt_of_cell? w _ (r.cell j hj).1)).trans (r.cell j hj).1,(h.cell (p:=⟨g,off+j * 2+1,none⟩) (World.block_lt_of_cell? w _ (r.cell j hj).2)).trans (r.cell j hj).2⟩,r.fit⟩
theorem own_rdB {w:World} {base:Nat} {v:Value} {l:List (Int×Nat)} (h:Cv.OwnB w base v l) (hf : ∀ b∈l,Fitb b.1 b.2) : ∃ ao g n cap,v = .slice ao n cap∧RdB w ao g 0 n l∧n≤maxLen:=by
 have h0:=h
 obtain ⟨h1,h2⟩:=h
 rcases h2 with ⟨rfl,h2⟩ | ⟨g,cap,cur,rfl,hg,hh,hc1,hc2,hc3,hc4⟩
 ·exact ⟨none,0,0,0,rfl,⟨h2,fun h=>absurd h (by omega),fun j hj=>absurd hj (by omega),hf⟩,Nat.zero_le _⟩
 ·refine ⟨some ⟨g,0,none⟩,g,l.length,cap,rfl,⟨rfl,fun _=>rfl,fun j hj => ?_,hf⟩,by omega⟩
  have hcl:=h0.cells (g:=g) rfl
  obtain ⟨⟨a,b⟩,hq⟩ : ∃ q,l[j]=q:=⟨_,rfl⟩
  have hget:l[j]? = some (a,b):=by rw [List.getElem?_eq_getElem hj,hq]
  obtain ⟨e1,e2⟩:=Cv.cB_get l j a b hget
  have f1:=hcl _ _ e1
  have f2:=hcl _ _ e2
  rw [Addr.add_mid,Nat.zero_add,Nat.mul_comm] at f1 f2
  rw [List.getD_eq_getElem?_getD,hget,Nat.zero_add]
  exact ⟨f1,f2⟩
def dgs (c:Nat) (L:List ByteArray):List (Int×Nat)→Option (List ByteArray)
 | []=>some []
 | b::r=>(ff c L b.1 b.2).bind fun x=>(dgs c L r).map fun A=>x::A
theorem dgs_app {c:Nat} {L:List ByteArray} {h:Int} {k:Nat} {x:ByteArray} (hx:ff c L h k=some x) : ∀ {B:List (Int×Nat)} {A:List ByteArray},dgs c L B=some A→dgs c L (B++[(h,k)])=some (A++[x])
 | [],A,e=>by
  simp [dgs] at e
  subst e
  simp [dgs,hx]
 | b::r,A,e=>by
  rw [dgs] at e
  obtain ⟨y,hy,e⟩:=Option.bind_eq_some_iff.1 e
  obtain ⟨A',hA,rfl⟩:=Option.map_eq_some_iff.1 e
  rw [List.cons_append,dgs,hy,dgs_app hx hA]
  rfl
theorem dgs_none {c:Nat} {L:List ByteArray} {b:Int×Nat} (hb:ff c L b.1 b.2=none) : ∀ {B:List (Int×Nat)},b∈B→dgs c L B=none
 | [],h=>by cases h
 | d::r,h=>by
  rw [dgs]
  rcases List.mem_cons.1 h with rfl | h
  ·rw [hb]; rfl
  ·rw [dgs_none hb h]
   cases ff c L d.1 d.2 <;> rfl
theorem dgs_all {c:Nat} {L:List ByteArray} : ∀ {B:List (Nat×Nat)},(∀ b∈B,(b.2+1) * 2^b.1≤L.length)→dgs c L (Cv.zl B)=some (B.map fun b=>nd c L b.1 b.2)
 | [],_=>rfl
 | b::r,h=>by
  show dgs c L (((b.1:Int),b.2)::Cv.zl r)=_
  rw [dgs,ff_nat c L b.1 b.2 (h b (by simp)),dgs_all (B:=r) (fun d hd=>h d (by simp [hd]))]
  rfl
set_option maxRecDepth 100000 in
set_option maxHeartbeats 1000000 in
theorem fdigests_any (w:World) (m:Nat) (k:Int) (L:List ByteArray) (hF:Frs w m k L) (ao:Option Addr) (g off cap:Nat) (B:List (Int×Nat)) (hr:RdB w ao g off B.length B) (hmx:B.length≤8796093021952) :
  Calls Tryz.prog 106 #[.pointer (some ⟨m+1,0,none⟩),.slice ao B.length cap] w fun e w'=>Below w.heap.size w w'∧((dgs (clk k) L B=none∧e = .returned (.tuple #[.slice none 0 0,.bool false]))∨(∃ D,dgs (clk k) L B=some D ∧ ∃ v,e = .returned (.tuple #[v,.bool true])∧OwnS w' w.heap.size v D)):=by
 have HM:=make_S w B.length (by omega)
 have HF:Hid (∀ W,Below w.heap.size w W→Frs W m k L∧RdB W ao g off B.length B):=fun W hb=>⟨hF.next hb (Nat.le_refl _),hr.below hb⟩
 have HX:=hide hmx
 have HO:Hid (OwnS (w.alloc (.cells (madeCells #[.string ByteArray.empty] B.length) 9)) w.heap.size (.slice (some ⟨w.heap.size,0,none⟩) 0 B.length) []):=own_made w _ (by omega)
 have h63:(B.length:Int)≤9223372036854775807:=by omega
 clear hF hr hmx
 go_enter Tryz.func106,Tryz.ntmps106
 go_wp2
 go_loopg [6,16] B.length (fun g v i wr => ∃ (j:Nat) (A:List ByteArray),j≤B.length∧g=B.length - j∧i = .int .i64 (j:Int)∧A.length=j∧Hid (dgs (clk k) L (B.take j)=some A)∧OwnS wr w.heap.size v A∧Below w.heap.size w wr)
 case atStart =>
  go_light
  exact ⟨0,[],Nat.zero_le _,rfl,rfl,rfl,rfl,HO.out,bal (Below.refl _ _) _⟩
 case round =>
  clear HM HO
  obtain ⟨j,A,hj,rfl,rfl,hA,HE,ho,hb⟩:=hrel
  by_cases hlt:j<B.length
  ·have hz:(j:Int)<(B.length:Int):=by omega
   have hz0:(0:Int)≤(j:Int):=Int.natCast_nonneg _
   obtain rfl:=(HF.out wr hb).2.addr (by omega)
   obtain ⟨c0,c1⟩:=(HF.out wr hb).2.cell j hlt
   obtain ⟨⟨h,q⟩,hx⟩ : ∃ x,B.getD j (0,0)=x:=⟨_,rfl⟩
   rw [hx] at c0 c1
   have hmem:(h,q)∈B:=by rw [← hx,List.getD_eq_getElem?_getD,List.getElem?_eq_getElem hlt]; exact List.getElem_mem _
   have htk:B.take (j+1)=B.take j++[(h,q)]:=by
    rw [List.take_add_one,← hx,List.getD_eq_getElem?_getD,List.getElem?_eq_getElem hlt]; rfl
   have hfit:=(HF.out wr hb).2.fit _ hmem
   cases hv:ff (clk k) L h q with
   | none =>
    have HD:Hid (∀ W,Below w.heap.size w W→Calls Tryz.prog 182 #[.pointer (some ⟨m+1,0,none⟩),.agg #[.int .i64 h,.int .u64 (q:Int)]] W fun e w'=>e = .returned (.tuple #[.string ⟨#[]⟩,.bool false])∧Below W.heap.size W w'):=fun W hb =>
     fdigest_any W m k L (HF.out W hb).1 h q hfit ⟨#[]⟩ false (by show _∧_; rw [hv]; exact ⟨rfl,rfl⟩)
    have HN:Hid (dgs (clk k) L B=none):=dgs_none (b:=(h,q)) hv hmem
    clear HE HF hx hmem htk hfit hv ho hlt hA
    go_wp2_with (go_at_call 182; with_reducible refine (HD.out _ (bal hb _)).mono ?_; rintro e w1 ⟨rfl,hb1⟩)
    go_ret2
    exact ⟨bnext (bal hb _) hb1,.inl ⟨HN.out,rfl⟩⟩
   | some x =>
    have HD:Hid (∀ W,Below w.heap.size w W→Calls Tryz.prog 182 #[.pointer (some ⟨m+1,0,none⟩),.agg #[.int .i64 h,.int .u64 (q:Int)]] W fun e w'=>e = .returned (.tuple #[.string x,.bool true])∧Below W.heap.size W w'):=fun W hb =>
     fdigest_any W m k L (HF.out W hb).1 h q hfit x true (by show _∧_; rw [hv]; exact ⟨rfl,rfl⟩)
    have HN:Hid (dgs (clk k) L (B.take (j+1))=some (A++[x])):=by rw [htk]; exact dgs_app hv HE.out
    have HZ:Hid (x.size≤9223372036854775807):=by show x.size≤_; rw [ff_size (clk_le k) hv]; have:=clk_le k; omega
    have HO:=hide ho
    have HA:=hide hA
    clear HE HF hx hmem htk hfit hv ho hA
    go_wp2_with (first
     | (go_at_call 182; with_reducible refine (HD.out _ (bal hb _)).mono ?_; rintro e w1 ⟨rfl,hb1⟩)
     | (at_builtin; refine wpList_append_S _ rfl _ _ rfl w.heap.size _ A rfl (own_al (own_next (own_al HO.out _) hb1 (Nat.le_refl _)) _) (some ⟨w1.heap.size,0,none⟩) w1.heap.size 0 1 [x] rfl (rds_one w1 x HZ.out) (fun h=>by cases h) ?c1 ?c2 ?_))
    case c1=>have:=HX.out; have:=HA.out; simp; omega
    case c2=>have:=(bnext (bal hb _) hb1).size; simp; omega
    intro v2 w3 h3 hb3
    have HY:Hid (OwnS w3 w.heap.size v2 (A++[x])∧Below w.heap.size w w3):=⟨h3,(bal (bnext (bal hb _) hb1) _).trans hb3⟩
    clear h3 hb3 hb1 hb
    go_wp2
    go_roundg (B.length - (j+1))
    case rel =>
     go_light
     exact ⟨j+1,A++[x],by omega,rfl,by go_num,by have:=HA.out; simp; omega,HN,HY.out.1,HY.out.2⟩
    case measure=>go_light; omega
  ·obtain rfl:j=B.length:=by omega
   have hz : ¬ ((B.length:Int)<(B.length:Int)):=by omega
   have HN:Hid (dgs (clk k) L B=some A):=by have:=HE.out; rwa [List.take_length] at this
   clear HE hlt HF
   go_wp2
   go_ret2
   exact ⟨hb,.inr ⟨A,HN.out,_,rfl,ho⟩⟩
theorem mount_ok (n:Nat) (hn:n≤65536):Cv.errR 0 n n=0∧Cv.covR 0 n n=Cv.cov 0 n:=by
 have h:Cv.errR 0 n n=0:=by rw [Cv.errR,if_neg (by omega),if_neg (by omega),if_neg (by omega)]
 exact ⟨h,by rw [Cv.covR,if_pos h]⟩
theorem small_fit {b:Nat×Nat} {n:Nat} (h:(b.2+1) * 2^b.1≤n) (hn:n≤65536):Fitb (b.1:Int) b.2:=by
 have hp:=Nat.two_pow_pos b.1
 have h1:2^b.1≤(b.2+1) * 2^b.1:=Nat.le_mul_of_pos_left _ (by omega)
 have h2:b.2+1≤(b.2+1) * 2^b.1:=Nat.le_mul_of_pos_right _ hp
 have h3:b.1<2^b.1:=Nat.lt_two_pow_self
 exact ⟨⟨by omega,by omega⟩,by omega⟩
set_option maxRecDepth 100000 in
set_option maxHeartbeats 1000000 in
theorem froot_ok (w:World) (ht:Tb w) (m:Nat) (k:Int) (L:List ByteArray) (hF:Frs w m k L) (n:Nat) (hn:n≤L.length) (r:ByteArray) (hq:Hid (rtD (clk k) L n=r)) :
  Calls Tryz.prog 57 #[.pointer (some ⟨m+1,0,none⟩),.int .u64 (n:Int)] w fun e w'=>e = .returned (.tuple #[.agg #[.int .u64 (n:Int),.string r],.int .i64 0])∧Below w.heap.size w w':=by
 have hL:=hF.hn
 obtain ⟨e1,e2⟩:=mount_ok n (by omega)
 obtain ⟨p1,p2⟩:=cov_peaks (clk k) L n hn (by omega)
 have hds:dgs (clk k) L (Cv.zl (Cv.cov 0 n))=some (pks (clk k) (L.take n) 41):=by rw [dgs_all (fun b hb=>Nat.le_trans (p2 b hb) hn),p1]
 obtain ⟨P,hP⟩ : ∃ P,pks (clk k) (L.take n) 41=P:=⟨_,rfl⟩
 rw [hP] at hds
 have zP : ∀ s∈P,s.size≤140737488351232:=by rw [← hP]; exact small (clk_le k)
 have lP:P.length≤41:=by rw [← hP]; exact pks_len _ _ _
 have HQ:dg (clk k) (rootT n (bagL (clk k) P))=r:=by rw [← hP]; exact hq.out
 have HM:Hid (∀ W,Calls Tryz.prog 105 #[.int .u64 (n:Int)] W fun x w' => ∃ ao g cap,x = .returned (.tuple #[.slice ao (Cv.zl (Cv.cov 0 n)).length cap,.int .i64 0])∧RdB w' ao g 0 (Cv.zl (Cv.cov 0 n)).length (Cv.zl (Cv.cov 0 n))∧Below W.heap.size W w'):=fun W=>by
  have:=Cv.mountains_any n W
  rw [e1,e2] at this
  refine this.mono ?_
  rintro x w' ⟨v,rfl,ho,hb⟩
  obtain ⟨ao,g,n',cap,rfl,hr,_⟩:=own_rdB ho (fun b hb=>by
   obtain ⟨b0,hb0,rfl⟩:=List.mem_map.1 hb
   exact small_fit (p2 b0 hb0) (by omega))
  obtain rfl:=hr.len
  exact ⟨ao,g,cap,rfl,hr,hb⟩
 have lC:(Cv.zl (Cv.cov 0 n)).length≤80:=by rw [Cv.zl_len]; exact Cv.cov_len 0 n (Nat.zero_le _) (by omega)
 obtain ⟨C,hC⟩ : ∃ C,Cv.zl (Cv.cov 0 n)=C:=⟨_,rfl⟩
 rw [hC] at HM hds lC
 have HD:Hid (∀ W ao g cap,Below w.heap.size w W→RdB W ao g 0 C.length C→Calls Tryz.prog 106 #[.pointer (some ⟨m+1,0,none⟩),.slice ao C.length cap] W fun e w'=>Below W.heap.size W w' ∧ ∃ ao' b' cap',e = .returned (.tuple #[.slice ao' P.length cap',.bool true])∧RdS w' ao' b' 0 P.length P):=fun W ao g cap hb hr=>by
  refine (fdigests_any W m k L (hF.next hb (Nat.le_refl _)) ao g 0 cap C hr (by omega)).mono ?_
  rintro e w' ⟨hb',⟨h1,_⟩ | ⟨D,h1,v,rfl,ho⟩⟩
  ·rw [hds] at h1; cases h1
  ·rw [hds] at h1
   injection h1 with h1
   subst h1
   obtain ⟨ao',b',cap',rfl,hr',_⟩:=owns_rds ho (fun s hs=>Nat.le_trans (zP s hs) (by decide))
   exact ⟨hb',ao',b',cap',rfl,hr'⟩
 have HRo:Hid (∀ W,Below w.heap.size w W → ∀ ao' b' cap',RdS W ao' b' 0 P.length P→Calls Tryz.prog 107 #[.int .i64 k,.int .u64 (n:Int),.slice ao' P.length cap'] W fun e w'=>e = .returned (.string r)∧Below W.heap.size W w'):=fun W hb ao' b' cap' hr'=>root_any W (ht.next hb) k n ao' b' 0 P.length cap' P hr' zP (by omega) r HQ
 have HF:Hid (∀ W,Below w.heap.size w W→W.cell? ⟨m+1,0,none⟩=some (.int .i64 k)):=fun W hb=>(hF.next hb (Nat.le_refl _)).c0
 have c1:(w.alloc (.cells #[.int .u64 0,.string ⟨#[]⟩] 50)).cell? ⟨m+1,1,none⟩=some (.int .u64 (L.length:Int)):=(hF.next (bal (Below.refl w.heap.size w) _) (Nat.le_refl _)).c1
 have hn' : ¬ (L.length:Int)<(n:Int):=by omega
 have hb:=bal (Below.refl w.heap.size w) (.cells #[.int .u64 0,.string ⟨#[]⟩] 50)
 have HN:=rt_new w 0 ⟨#[]⟩ 50
 rw [show ((0:Nat):Int)=0 from rfl] at HN
 have HN2:=hide HN
 have HZ:Hid (w.heap.size<(w.alloc (.cells #[.int .u64 0,.string ⟨#[]⟩] 50)).heap.size):=by show _<_; simp
 clear hq hP hds zP lP HQ hC lC e1 e2 p1 p2 hn hL ht hF HN
 go_enter Tryz.func57,Tryz.ntmps57
 go_wp2_with (first
  | (go_at_call 105; with_reducible refine (HM.out _).mono ?_; rintro e w1 ⟨ao,g,cap,rfl,hr1,hb1⟩)
  | (go_at_call 106; with_reducible refine (HD.out _ _ _ _ (bnext hb hb1) hr1).mono ?_; rintro e w2 ⟨hb2,ao',b',cap',rfl,hr2⟩; have y0:=HF.out _ (bnext (bnext hb hb1) hb2))
  | (go_at_call 107; with_reducible refine (HRo.out _ (bnext (bnext hb hb1) hb2) _ _ _ hr2).mono ?_; rintro e w3 ⟨rfl,hb3⟩; have hR:=((HN2.out.below hb1 HZ.out).below hb2 (Nat.lt_of_lt_of_le HZ.out hb1.size)).below hb3 (Nat.lt_of_lt_of_le HZ.out (Nat.le_trans hb1.size hb2.size)); have k0:=hR.c0; have k1:=hR.c1; have f0:=hR.f0; have f1:=hR.f1))
 have s0:(w3.setCell ⟨w.heap.size,0,none⟩ (.int .u64 (n:Int))).cell? ⟨w.heap.size,0,none⟩=some (.int .u64 (n:Int)):=World.cell?_setCell_same _ _ _ k0
 have s1:((w3.setCell ⟨w.heap.size,0,none⟩ (.int .u64 (n:Int))).setCell ⟨w.heap.size,1,none⟩ (.string r)).cell? ⟨w.heap.size,1,none⟩=some (.string r) :=
  World.cell?_setCell_same _ _ _ ((World.cell?_setCell_other _ _ _ _ (by simp)).trans k1)
 refine bodyPost_ret (v := .tuple #[.agg #[.int .u64 (n:Int),.string r],.int .i64 0]) (by simp [results,Tryz.results57,go_sem,s0,s1]) rfl ⟨rfl,?_⟩
 exact ((bnext (bnext (bnext hb hb1) hb2) hb3).setCell (p:=⟨w.heap.size,0,none⟩) (Nat.le_refl _) _).setCell (p:=⟨w.heap.size,1,none⟩) (Nat.le_refl _) _
theorem u64_id (x:Int) (h0:0≤x) (h1:x<18446744073709551616):IntKind.u64.wrap x=x:=by
 simp [IntKind.wrap,IntKind.signed,IntKind.bits]; omega
theorem trail_any (n:Nat) (w:World) (hn:n<2^64) (t:Nat) (ht:tr 64 n=t) :
  Calls Tryz.prog 253 #[.int .u64 n] w fun e w'=>e = .returned (.int .i64 (t:Int))∧w'=w:=by
 subst ht
 go_enter Tryz.func253,Tryz.ntmps253
 go_wp2
 go_loopg [4] 64 (fun g i wr => ∃ k:Nat,k≤64∧g=64 - k∧i = .int .i64 k∧k+tr (64 - k) (n / 2^k)=tr 64 n∧w=wr)
 case atStart =>
  go_light
  exact ⟨0,Nat.zero_le _,rfl,rfl,by simp,rfl⟩
 case round =>
  obtain ⟨k,hk,rfl,rfl,hs,rfl⟩:=hrel
  have hk0:(0:Int)≤(k:Int):=Int.natCast_nonneg _
  by_cases hlt:k<64
  ·have hk8:(k:Int)<64:=by omega
   have HC:=Pl.isOne_any n k w hn hlt
   have HS:=tr_step k n hlt
   by_cases hb:n / 2^k % 2=1
   ·rw [if_pos hb] at HS
    rw [decide_eq_true hb] at HC
    go_wp2_with (go_at_call 224; refine HC.mono ?_; rintro e w' ⟨rfl,rfl⟩)
    go_ret
    refine ⟨?_,rfl⟩
    rw [← hs,HS]
    rfl
   ·rw [if_neg hb] at HS
    rw [decide_eq_false hb] at HC
    go_wp2_with (go_at_call 224; refine HC.mono ?_; rintro e w' ⟨rfl,rfl⟩)
    go_roundg (64 - (k+1))
    case rel =>
     go_light
     exact ⟨k+1,by omega,rfl,by go_num,by omega,rfl⟩
    case measure=>go_light; omega
  ·obtain rfl:k=64:=by omega
   clear hk hlt
   go_wp2
   go_ret
   refine ⟨?_,rfl⟩
   rw [← hs]
   rfl
theorem own_one (w:World) (s:ByteArray):OwnS (w.alloc (.cells #[.string s] 9)) w.heap.size (.slice (some ⟨w.heap.size,0,none⟩) 1 1) [s] :=
 ⟨rfl,.inr ⟨w.heap.size,1,#[.string s],rfl,Nat.le_refl _,heap_alloc_new w _,Nat.le_refl _,by unfold maxLen; omega,rfl,rfl⟩⟩
theorem own_mono {w:World} {B B':Nat} {v:Value} {l:List ByteArray} (h:OwnS w B v l) (hB:B'≤B):OwnS w B' v l:=by
 obtain ⟨h1,h2⟩:=h
 refine ⟨h1,?_⟩
 rcases h2 with h2 | ⟨g,cap,cur,hv,hg,h3⟩
 ·exact .inl h2
 ·exact .inr ⟨g,cap,cur,hv,by omega,h3⟩
structure Chf (m:Nat) (w w':World):Prop where
 below:Below m w w'
 block : ∀ q,q<w.heap.size→q≠m→q≠m+1→w'.heap[q]? = w.heap[q]?
theorem Chf.refl (m:Nat) (w:World):Chf m w w:=⟨Below.refl _ _,fun _ _ _ _=>rfl⟩
theorem Chf.of {m:Nat} {w w':World} (h:Below w.heap.size w w') (hm:m<w.heap.size):Chf m w w':=⟨h.mono (Nat.le_of_lt hm),fun q hq _ _=>h.block q hq⟩
theorem Chf.trans {m:Nat} {w w1 w2:World} (h:Chf m w w1) (h2:Chf m w1 w2):Chf m w w2 :=
 ⟨h.below.trans h2.below,fun q hq x y=>(h2.block q (Nat.lt_of_lt_of_le hq h.below.size) x y).trans (h.block q hq x y)⟩
theorem Chf.size {m:Nat} {w w':World} (h:Chf m w w'):w.heap.size≤w'.heap.size:=h.below.size
theorem Chf.next {m:Nat} {w w1 w2:World} (h:Chf m w w1) (h2:Below w1.heap.size w1 w2) (hm:m<w.heap.size):Chf m w w2:=h.trans (Chf.of h2 (Nat.lt_of_lt_of_le hm h.size))
theorem Chf.set {m b:Nat} {w w':World} (h:Chf m w w') (i:Nat) (v:Value) (hb:b=m+1∨w.heap.size≤b) (hm:m<w.heap.size):Chf m w (w'.setCell ⟨b,i,none⟩ v):=by
 refine ⟨h.below.setCell (p:=⟨b,i,none⟩) (by show m≤b; omega) v,fun q hq x y => ?_⟩
 rw [← h.block q hq x y]
 exact Below.heap_setCell _ _ _ _ (by show q≠b; omega)
theorem Chf.put {m:Nat} {w w':World} (h:Chf m w w') (o:Obj):Chf m w (ChangeMaps.setBlock w' m o):=by
 refine ⟨⟨h.below.os,h.below.tape,h.below.output,?_,fun q hq => ?_⟩,fun q hq x _ => ?_⟩
 ·simp [ChangeMaps.setBlock,h.below.size]
 ·rw [← h.below.block q hq]
  simp [ChangeMaps.setBlock,show ¬ m=q by omega]
 ·rw [← h.block q hq x (by assumption)]
  simp [ChangeMaps.setBlock,show ¬ m=q by omega]
theorem set_other {m q:Nat} {w:World} (o:Obj) (h:q≠m):(ChangeMaps.setBlock w m o).heap[q]? = w.heap[q]? := by
 simp [ChangeMaps.setBlock,show ¬ m=q by omega]
theorem tb_ne {w:World} {m g:Nat} {k x:Int} {L:List ByteArray} (h0:w.cell? ⟨g,0,none⟩=some (.int .u32 x)) (hF:Frs w m k L):g≠m∧g≠m+1:=by
 constructor
 ·rintro rfl
  obtain ⟨es,c,hm,_⟩:=hF.mp
  simp [World.cell?,hm] at h0
 ·rintro rfl
  rw [hF.c0] at h0
  cases h0
theorem Tb.chf {w w':World} {m:Nat} {k:Int} {L:List ByteArray} (ht:Tb w) (hF:Frs w m k L) (hc:Chf m w w'):Tb w':=by
 have hlt:=range_lt ht.rs (cW_ne (by rw [RS_len]; decide))
 obtain ⟨x,h0⟩ : ∃ x,w.cell? ⟨3,0,none⟩=some (.int .u32 x):=by
  have hx:0<RS.length:=by rw [RS_len]; decide
  exact ⟨RS[0],ht.rs 0 _ (by simp [cW,hx])⟩
 obtain ⟨hne,hne2⟩:=tb_ne h0 hF
 refine ⟨fun j u hu => ?_⟩
 rw [← ht.rs j u hu]
 have:=hc.block _ hlt hne hne2
 simp only [World.cell?,this]
def sm (x:ByteArray):ByteArray:=dg 32 (leafT x)
def smL (L:List ByteArray):List ByteArray:=L.map sm
theorem sm_size (x:ByteArray):(sm x).size=32:=dg_size (Nat.le_refl _) _
theorem sumof_any (w:World) (ht:Tb w) (x:ByteArray) (hx:x.size≤1048576) (s:ByteArray) (hs:sm x=s) :
  Calls Tryz.prog 85 #[.string x] w fun e w'=>e = .returned (.string s)∧Below w.heap.size w w':=by
 have HLf:Hid (Calls Tryz.prog 145 #[.int .i64 32,.string x] w fun e w'=>e = .returned (.string s)∧Below w.heap.size w w'):=leaf_any w ht 32 x (by omega) s hs
 clear ht hx hs
 go_enter Tryz.func85,Tryz.ntmps85
 go_wp2_with (go_at_call 145; (with_reducible refine HLf.out.mono ?_); rintro e w1 ⟨rfl,hb⟩)
 go_ret
 exact ⟨rfl,hb⟩
end Go.Proofs.YtoblgjledefdbaaGreatDoor
