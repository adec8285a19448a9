/- Own work. -/
import Derived.Deep.OwnRows
import Derived.Test.YtipcenbndhnnhaaGreatDoorQc08
namespace Go.Proofs.YtipcenbndhnnhaaGreatDoor
open Go.RowKit
attribute [local go_sem ↓] Go.wp_at_zero Go.wp_at_succ
theorem make_S (w:World) (n:Nat) (hn:n≤8796093022208):(Instr.makeSlice 22 (.int .i64 0) (.int .i64 (n:Int))).run Tryz.prog w = .ok (.slice (some ⟨w.heap.size,0,none⟩) 0 n) (w.alloc (.cells (madeCells #[.string ByteArray.empty] n) 9)):=by
 obtain ⟨i0,hi,hz0,hz1,hz2⟩:=info_parts Tryz.infoS
 have hr:=run_make (P:=Tryz.prog) w 22 9 i0 _ Tryz.underlying22 hi hz0 .i64 .i64 0 n (by omega) (by omega) (by rw [hz2]; omega) (by omega)
 simp only [Int.toNat_natCast,hz1,Nat.mul_one] at hr
 exact hr
theorem own_made (w:World) (n:Nat) (hn:n≤8796093022208):OwnS (w.alloc (.cells (madeCells #[.string ByteArray.empty] n) 9)) w.heap.size (.slice (some ⟨w.heap.size,0,none⟩) 0 n) [] :=
 ⟨rfl,.inr ⟨w.heap.size,n,_,rfl,Nat.le_refl _,heap_alloc_new w _,Nat.zero_le _,by unfold maxLen; omega,by rw [size_madeCells,Nat.mul_one],rfl⟩⟩
structure RdB (w:World) (ao:Option Addr) (g off n:Nat) (l:List (Int×Nat)):Prop where
 len:l.length=n
 addr:0<n→ao=some ⟨g,off,none⟩
 cell : ∀ j,j<n→w.cell? ⟨g,off+j * 2,none⟩=some (.int .i64 (l.getD j (0,0)).1)∧w.cell? ⟨g,off+j * 2+1,none⟩=some (.int .u64 ((l.getD j (0,0)).2:Nat))
 fit : ∀ b∈l,Fitb b.1 b.2
theorem RdB.below {w w':World} {ao:Option Addr} {g off n:Nat} {l:List (Int×Nat)} (r:RdB w ao g off n l) (h:Below w.heap.size w w'):RdB w' ao g off n l :=
 ⟨r.len,r.addr,fun j hj=>⟨(h.cell (p:=⟨g,off+j * 2,none⟩) (World.block_lt_of_cell? w _ (r.cell j hj).1)).trans (r.cell j hj).1,(h.cell (p:=⟨g,off+j * 2+1,none⟩) (World.block_lt_of_cell? w _ (r.cell j hj).2)).trans (r.cell j hj).2⟩,r.fit⟩
theorem own_rdB {w:World} {base:Nat} {v:Value} {l:List (Int×Nat)} (h:Cv.OwnB w base v l) (hf : ∀ b∈l,Fitb b.1 b.2) : ∃ ao g n cap,v = .slice ao n cap∧RdB w ao g 0 n l∧n≤maxLen:=by
 have h0:=h
 obtain ⟨h1,h2⟩:=h
 rcases h2 with ⟨rfl,h2⟩ | ⟨g,cap,cur,rfl,hg,hh,hc1,hc2,hc3,hc4⟩
 ·exact ⟨none,0,0,0,rfl,⟨h2,fun h=>absurd h (by omega),fun j hj=>absurd hj (by omega),hf⟩,Nat.zero_le _⟩
 ·refine ⟨some ⟨g,0,none⟩,g,l.length,cap,rfl,⟨rfl,fun _=>rfl,fun j hj => ?_,hf⟩,by omega⟩
  have hcl:=h0.cells (g:=g) rfl
  obtain ⟨⟨a,b⟩,hq⟩ : ∃ q,l[j]=q:=⟨_,rfl⟩
  have hget:l[j]? = some (a,b):=by rw [List.getElem?_eq_getElem hj,hq]
  obtain ⟨e1,e2⟩:=Cv.cB_get l j a b hget
  have f1:=hcl _ _ e1
  have f2:=hcl _ _ e2
  rw [Addr.add_mid,Nat.zero_add,Nat.mul_comm] at f1 f2
  rw [List.getD_eq_getElem?_getD,hget,Nat.zero_add]
  exact ⟨f1,f2⟩
def dgs (c:Nat) (L:List ByteArray):List (Int×Nat)→Option (List ByteArray)
 | []=>some []
 | b::r=>(ff c L b.1 b.2).bind fun x=>(dgs c L r).map fun A=>x::A
theorem dgs_app {c:Nat} {L:List ByteArray} {h:Int} {k:Nat} {x:ByteArray} (hx:ff c L h k=some x) : ∀ {B:List (Int×Nat)} {A:List ByteArray},dgs c L B=some A→dgs c L (B++[(h,k)])=some (A++[x])
 | [],A,e=>by
  simp [dgs] at e
  subst e
  simp [dgs,hx]
 | b::r,A,e=>by
  rw [dgs] at e
  obtain ⟨y,hy,e⟩:=Option.bind_eq_some_iff.1 e
  obtain ⟨A',hA,rfl⟩:=Option.map_eq_some_iff.1 e
  rw [List.cons_append,dgs,hy,dgs_app hx hA]
  rfl
theorem dgs_none {c:Nat} {L:List ByteArray} {b:Int×Nat} (hb:ff c L b.1 b.2=none) : ∀ {B:List (Int×Nat)},b∈B→dgs c L B=none
 | [],h=>by cases h
 | d::r,h=>by
  rw [dgs]
  rcases List.mem_cons.1 h with rfl | h
  ·rw [hb]; rfl
  ·rw [dgs_none hb h]
   cases ff c L d.1 d.2 <;> rfl
theorem dgs_all {c:Nat} {L:List ByteArray} : ∀ {B:List (Nat×Nat)},(∀ b∈B,(b.2+1) * 2^b.1≤L.length)→dgs c L (Cv.zl B)=some (B.map fun b=>nd c L b.1 b.2)
 | [],_=>rfl
 | b::r,h=>by
  show dgs c L (((b.1:Int),b.2)::Cv.zl r)=_
  rw [dgs,ff_nat c L b.1 b.2 (h b (by simp)),dgs_all (B:=r) (fun d hd=>h d (by simp [hd]))]
  rfl
set_option maxRecDepth 100000 in
set_option maxHeartbeats 1000000 in
theorem fdigests_any (w:World) (m:Nat) (k:Int) (L:List ByteArray) (hF:Frs w m k L) (ao:Option Addr) (g off cap:Nat) (B:List (Int×Nat)) (hr:RdB w ao g off B.length B) (hmx:B.length≤8796093021952) :
  Calls Tryz.prog 28 #[.pointer (some ⟨m+1,0,none⟩),.slice ao B.length cap] w fun e w'=>Below w.heap.size w w'∧((dgs (clk k) L B=none∧e = .returned (.tuple #[.slice none 0 0,.bool false]))∨(∃ D,dgs (clk k) L B=some D ∧ ∃ v,e = .returned (.tuple #[v,.bool true])∧OwnS w' w.heap.size v D)):=by
 have HM:=make_S w B.length (by omega)
 have HF:Hid (∀ W,Below w.heap.size w W→Frs W m k L∧RdB W ao g off B.length B):=fun W hb=>⟨hF.next hb (Nat.le_refl _),hr.below hb⟩
 have HX:=hide hmx
 have HO:Hid (OwnS (w.alloc (.cells (madeCells #[.string ByteArray.empty] B.length) 9)) w.heap.size (.slice (some ⟨w.heap.size,0,none⟩) 0 B.length) []):=own_made w _ (by omega)
 have h63:(B.length:Int)≤9223372036854775807:=by omega
 clear hF hr hmx
 go_enter Tryz.func28,Tryz.ntmps28
 go_wp2
 go_loopg [6,16] B.length (fun g v i wr => ∃ (j:Nat) (A:List ByteArray),j≤B.length∧g=B.length - j∧i = .int .i64 (j:Int)∧A.length=j∧Hid (dgs (clk k) L (B.take j)=some A)∧OwnS wr w.heap.size v A∧Below w.heap.size w wr)
 case atStart =>
  go_light
  exact ⟨0,[],Nat.zero_le _,rfl,rfl,rfl,rfl,HO.out,bal (Below.refl _ _) _⟩
 case round =>
  clear HM HO
  obtain ⟨j,A,hj,rfl,rfl,hA,HE,ho,hb⟩:=hrel
  by_cases hlt:j<B.length
  ·have hz:(j:Int)<(B.length:Int):=by omega
   have hz0:(0:Int)≤(j:Int):=Int.natCast_nonneg _
   obtain rfl:=(HF.out wr hb).2.addr (by omega)
   obtain ⟨c0,c1⟩:=(HF.out wr hb).2.cell j hlt
   obtain ⟨⟨h,q⟩,hx⟩ : ∃ x,B.getD j (0,0)=x:=⟨_,rfl⟩
   rw [hx] at c0 c1
   have hmem:(h,q)∈B:=by rw [← hx,List.getD_eq_getElem?_getD,List.getElem?_eq_getElem hlt]; exact List.getElem_mem _
   have htk:B.take (j+1)=B.take j++[(h,q)]:=by
    rw [List.take_add_one,← hx,List.getD_eq_getElem?_getD,List.getElem?_eq_getElem hlt]; rfl
   have hfit:=(HF.out wr hb).2.fit _ hmem
   cases hv:ff (clk k) L h q with
   | none =>
    have HD:Hid (∀ W,Below w.heap.size w W→Calls Tryz.prog 60 #[.pointer (some ⟨m+1,0,none⟩),.agg #[.int .i64 h,.int .u64 (q:Int)]] W fun e w'=>e = .returned (.tuple #[.string ⟨#[]⟩,.bool false])∧Below W.heap.size W w'):=fun W hb =>
     fdigest_any W m k L (HF.out W hb).1 h q hfit ⟨#[]⟩ false (by show _∧_; rw [hv]; exact ⟨rfl,rfl⟩)
    have HN:Hid (dgs (clk k) L B=none):=dgs_none (b:=(h,q)) hv hmem
    clear HE HF hx hmem htk hfit hv ho hlt hA
    go_wp2_with (go_at_call 60; with_reducible refine (HD.out _ (bal hb _)).mono ?_; rintro e w1 ⟨rfl,hb1⟩)
    go_ret2
    exact ⟨bnext (bal hb _) hb1,.inl ⟨HN.out,rfl⟩⟩
   | some x =>
    have HD:Hid (∀ W,Below w.heap.size w W→Calls Tryz.prog 60 #[.pointer (some ⟨m+1,0,none⟩),.agg #[.int .i64 h,.int .u64 (q:Int)]] W fun e w'=>e = .returned (.tuple #[.string x,.bool true])∧Below W.heap.size W w'):=fun W hb =>
     fdigest_any W m k L (HF.out W hb).1 h q hfit x true (by show _∧_; rw [hv]; exact ⟨rfl,rfl⟩)
    have HN:Hid (dgs (clk k) L (B.take (j+1))=some (A++[x])):=by rw [htk]; exact dgs_app hv HE.out
    have HZ:Hid (x.size≤9223372036854775807):=by show x.size≤_; rw [ff_size (clk_le k) hv]; have:=clk_le k; omega
    have HO:=hide ho
    have HA:=hide hA
    clear HE HF hx hmem htk hfit hv ho hA
    go_wp2_with (first
     | (go_at_call 60; with_reducible refine (HD.out _ (bal hb _)).mono ?_; rintro e w1 ⟨rfl,hb1⟩)
     | (at_builtin; refine wpList_append_S _ rfl _ _ rfl w.heap.size _ A rfl (own_al (own_next (own_al HO.out _) hb1 (Nat.le_refl _)) _) (some ⟨w1.heap.size,0,none⟩) w1.heap.size 0 1 [x] rfl (rds_one w1 x HZ.out) (fun h=>by cases h) ?c1 ?c2 ?_))
    case c1=>have:=HX.out; have:=HA.out; simp; omega
    case c2=>have:=(bnext (bal hb _) hb1).size; simp; omega
    intro v2 w3 h3 hb3
    have HY:Hid (OwnS w3 w.heap.size v2 (A++[x])∧Below w.heap.size w w3):=⟨h3,(bal (bnext (bal hb _) hb1) _).trans hb3⟩
    clear h3 hb3 hb1 hb
    go_wp2
    go_roundg (B.length - (j+1))
    case rel =>
     go_light
     exact ⟨j+1,A++[x],by omega,rfl,by go_num,by have:=HA.out; simp; omega,HN,HY.out.1,HY.out.2⟩
    case measure=>go_light; omega
  ·obtain rfl:j=B.length:=by omega
   have hz : ¬ ((B.length:Int)<(B.length:Int)):=by omega
   have HN:Hid (dgs (clk k) L B=some A):=by have:=HE.out; rwa [List.take_length] at this
   clear HE hlt HF
   go_wp2
   go_ret2
   exact ⟨hb,.inr ⟨A,HN.out,_,rfl,ho⟩⟩
theorem u64_id (x:Int) (h0:0≤x) (h1:x<18446744073709551616):IntKind.u64.wrap x=x:=by
 simp [IntKind.wrap,IntKind.signed,IntKind.bits]; omega
theorem trail_any (n:Nat) (w:World) (hn:n<2^64) (t:Nat) (ht:tr 64 n=t) :
  Calls Tryz.prog 50 #[.int .u64 n] w fun e w'=>e = .returned (.int .i64 (t:Int))∧w'=w:=by
 subst ht
 go_enter Tryz.func50,Tryz.ntmps50
 go_wp2
 go_loopg [4] 64 (fun g i wr => ∃ k:Nat,k≤64∧g=64 - k∧i = .int .i64 k∧k+tr (64 - k) (n / 2^k)=tr 64 n∧w=wr)
 case atStart =>
  go_light
  exact ⟨0,Nat.zero_le _,rfl,rfl,by simp,rfl⟩
 case round =>
  obtain ⟨k,hk,rfl,rfl,hs,rfl⟩:=hrel
  have hk0:(0:Int)≤(k:Int):=Int.natCast_nonneg _
  by_cases hlt:k<64
  ·have hk8:(k:Int)<64:=by omega
   have HC:=Pl.isOne_any n k w hn hlt
   have HS:=tr_step k n hlt
   by_cases hb:n / 2^k % 2=1
   ·rw [if_pos hb] at HS
    rw [decide_eq_true hb] at HC
    go_wp2_with (go_at_call 96; refine HC.mono ?_; rintro e w' ⟨rfl,rfl⟩)
    go_ret
    refine ⟨?_,rfl⟩
    rw [← hs,HS]
    rfl
   ·rw [if_neg hb] at HS
    rw [decide_eq_false hb] at HC
    go_wp2_with (go_at_call 96; refine HC.mono ?_; rintro e w' ⟨rfl,rfl⟩)
    go_roundg (64 - (k+1))
    case rel =>
     go_light
     exact ⟨k+1,by omega,rfl,by go_num,by omega,rfl⟩
    case measure=>go_light; omega
  ·obtain rfl:k=64:=by omega
   clear hk hlt
   go_wp2
   go_ret
   refine ⟨?_,rfl⟩
   rw [← hs]
   rfl
theorem own_one (w:World) (s:ByteArray):OwnS (w.alloc (.cells #[.string s] 9)) w.heap.size (.slice (some ⟨w.heap.size,0,none⟩) 1 1) [s] :=
 ⟨rfl,.inr ⟨w.heap.size,1,#[.string s],rfl,Nat.le_refl _,heap_alloc_new w _,Nat.le_refl _,by unfold maxLen; omega,rfl,rfl⟩⟩
theorem own_mono {w:World} {B B':Nat} {v:Value} {l:List ByteArray} (h:OwnS w B v l) (hB:B'≤B):OwnS w B' v l:=by
 obtain ⟨h1,h2⟩:=h
 refine ⟨h1,?_⟩
 rcases h2 with h2 | ⟨g,cap,cur,hv,hg,h3⟩
 ·exact .inl h2
 ·exact .inr ⟨g,cap,cur,hv,by omega,h3⟩
structure Chf (m:Nat) (w w':World):Prop where
 below:Below m w w'
 block : ∀ q,q<w.heap.size→q≠m→q≠m+1→w'.heap[q]? = w.heap[q]?
theorem Chf.refl (m:Nat) (w:World):Chf m w w:=⟨Below.refl _ _,fun _ _ _ _=>rfl⟩
theorem Chf.of {m:Nat} {w w':World} (h:Below w.heap.size w w') (hm:m<w.heap.size):Chf m w w':=⟨h.mono (Nat.le_of_lt hm),fun q hq _ _=>h.block q hq⟩
theorem Chf.trans {m:Nat} {w w1 w2:World} (h:Chf m w w1) (h2:Chf m w1 w2):Chf m w w2 :=
 ⟨h.below.trans h2.below,fun q hq x y=>(h2.block q (Nat.lt_of_lt_of_le hq h.below.size) x y).trans (h.block q hq x y)⟩
theorem Chf.size {m:Nat} {w w':World} (h:Chf m w w'):w.heap.size≤w'.heap.size:=h.below.size
theorem Chf.next {m:Nat} {w w1 w2:World} (h:Chf m w w1) (h2:Below w1.heap.size w1 w2) (hm:m<w.heap.size):Chf m w w2:=h.trans (Chf.of h2 (Nat.lt_of_lt_of_le hm h.size))
theorem Chf.set {m b:Nat} {w w':World} (h:Chf m w w') (i:Nat) (v:Value) (hb:b=m+1∨w.heap.size≤b) (hm:m<w.heap.size):Chf m w (w'.setCell ⟨b,i,none⟩ v):=by
 refine ⟨h.below.setCell (p:=⟨b,i,none⟩) (by show m≤b; omega) v,fun q hq x y => ?_⟩
 rw [← h.block q hq x y]
 exact Below.heap_setCell _ _ _ _ (by show q≠b; omega)
theorem Chf.put {m:Nat} {w w':World} (h:Chf m w w') (o:Obj):Chf m w (ChangeMaps.setBlock w' m o):=by
 refine ⟨⟨h.below.os,h.below.tape,h.below.output,?_,fun q hq => ?_⟩,fun q hq x _ => ?_⟩
 ·simp [ChangeMaps.setBlock,h.below.size]
 ·rw [← h.below.block q hq]
  simp [ChangeMaps.setBlock,show ¬ m=q by omega]
 ·rw [← h.block q hq x (by assumption)]
  simp [ChangeMaps.setBlock,show ¬ m=q by omega]
theorem set_other {m q:Nat} {w:World} (o:Obj) (h:q≠m):(ChangeMaps.setBlock w m o).heap[q]? = w.heap[q]? := by
 simp [ChangeMaps.setBlock,show ¬ m=q by omega]
theorem tb_ne {w:World} {m g:Nat} {k x:Int} {L:List ByteArray} (h0:w.cell? ⟨g,0,none⟩=some (.int .u32 x)) (hF:Frs w m k L):g≠m∧g≠m+1:=by
 constructor
 ·rintro rfl
  obtain ⟨es,c,hm,_⟩:=hF.mp
  simp [World.cell?,hm] at h0
 ·rintro rfl
  rw [hF.c0] at h0
  cases h0
theorem Tb.chf {w w':World} {m:Nat} {k:Int} {L:List ByteArray} (ht:Tb w) (hF:Frs w m k L) (hc:Chf m w w'):Tb w':=by
 have hlt:=range_lt ht.rs (cW_ne (by rw [RS_len]; decide))
 obtain ⟨x,h0⟩ : ∃ x,w.cell? ⟨3,0,none⟩=some (.int .u32 x):=by
  have hx:0<RS.length:=by rw [RS_len]; decide
  exact ⟨RS[0],ht.rs 0 _ (by simp [cW,hx])⟩
 obtain ⟨hne,hne2⟩:=tb_ne h0 hF
 refine ⟨fun j u hu => ?_⟩
 rw [← ht.rs j u hu]
 have:=hc.block _ hlt hne hne2
 simp only [World.cell?,this]
theorem field_N (w:World) (s:ByteArray):(Instr.field 97 (.agg #[.string s]) 0).run Tryz.prog w = .ok (.string s) w:=by kernel_rfl
structure Ap (w wr:World) (m:Nat) (k:Int) (L:List ByteArray) (x:ByteArray) (j:Nat) (v:Value):Prop where
 blk:wr.heap[m+1]? = some (.cells #[.int .i64 k,.int .u64 ((L.length+1:Nat):Int),.map (some m)] 92 (0,0))
 lst:wr.heap[w.heap.size]? = some (.cells #[.int .i64 (j:Int),.int .u64 (((L.length+1) / 2^j - 1:Nat):Int)] 94 (0,0))
 mp:Mp wr m (fj (clk k) L x j)
 own:OwnS wr (w.heap.size+1) v (nw (clk k) (L++[x]) j)
 ch:Chf m w wr
set_option maxRecDepth 100000 in
set_option maxHeartbeats 2000000 in
theorem fappend_ok (w:World) (ht:Tb w) (m:Nat) (k:Int) (L:List ByteArray) (hF:Frs w m k L) (s:ByteArray) (hs:s.size≤1048576) (hL:L.length<65536) (t:Nat) (hT:tr 64 (L.length+1)=t) :
  Calls Tryz.prog 23 #[.pointer (some ⟨m+1,0,none⟩),.string s] w fun e w' => ∃ v,e = .returned (.tuple #[v,.int .i64 0])∧Frs w' m k (L++[s])∧OwnS w' w.heap.size v (nw (clk k) (L++[s]) t)∧Chf m w w':=by
 have h1:decide ((1048576:Int)<(s.size:Int))=false:=decide_eq_false (by omega)
 have h2:decide ((65536:Int)≤(L.length:Int))=false:=decide_eq_false (by omega)
 have c1:=hF.c1
 have f1:=hF.fz 1
 have hlt:=hF.lt
 have hw1:IntKind.u64.wrap ((L.length:Int)+1)=((L.length+1:Nat):Int):=by rw [u64_id _ (by omega) (by omega)]; omega
 obtain ⟨d0,hd0⟩ : ∃ d0,dg (clk k) (leafT s)=d0:=⟨_,rfl⟩
 have HLf:Hid (∀ W,Tb W→Calls Tryz.prog 49 #[.int .i64 k,.string s] W fun e w'=>e = .returned (.string d0)∧Below W.heap.size W w'):=fun W hT=>leaf_any W hT k s (by omega) d0 hd0
 go_enter Tryz.func23,Tryz.ntmps23
 go_upto_region 7 with (fail)
 obtain ⟨w0,hw0⟩ : ∃ w0,(w.setCell ⟨m+1,1,none⟩ (.int .u64 ((L.length:Int)+1))).alloc (.cells #[.int .i64 0,.int .u64 (L.length:Int)] 94)=w0:=⟨_,rfl⟩
 rw [hw0]
 have hsz0:(w.setCell ⟨m+1,1,none⟩ (.int .u64 ((L.length:Int)+1))).heap.size=w.heap.size:=by simp
 have hal : ∀ q,q<w.heap.size→w0.heap[q]? = (w.setCell ⟨m+1,1,none⟩ (.int .u64 ((L.length:Int)+1))).heap[q]? := fun q hq=>by
  rw [← hw0]
  exact (MapKept.heap_alloc _ _).2 q (by rw [hsz0]; exact hq)
 have hblk0:w0.heap[m+1]? = some (.cells #[.int .i64 k,.int .u64 ((L.length:Int)+1),.map (some m)] 92 (0,0)):=by
  rw [hal _ hlt]
  exact heap_setCell_same w (m+1) 1 _ 92 (.int .u64 ((L.length:Int)+1)) hF.blk
 have hlst0:w0.heap[w.heap.size]? = some (.cells #[.int .i64 0,.int .u64 (L.length:Int)] 94 (0,0)):=by
  have:=heap_alloc_new (w.setCell ⟨m+1,1,none⟩ (.int .u64 ((L.length:Int)+1))) (.cells #[.int .i64 0,.int .u64 (L.length:Int)] 94)
  rw [hsz0,hw0] at this
  exact this
 have hmp0:Mp w0 m (ff (clk k) L):=hF.mp.same (by rw [hal m (by omega)]; exact Below.heap_setCell _ _ _ _ (by simp))
 have hz0:w.heap.size<w0.heap.size:=(Array.getElem?_eq_some_iff.1 hlst0).1
 have hch0:Chf m w w0:=by
  have h:=(Chf.refl m w).set (b:=m+1) 1 (.int .u64 ((L.length:Int)+1)) (.inl rfl) (by omega)
  have:=h.next (w2:=w0) (by rw [← hw0]; exact bal (Below.refl _ _) _) (by omega)
  exact this
 have c0:w0.cell? ⟨m+1,0,none⟩=some (.int .i64 k):=by rw [cell_of_row w0 (m+1) 0 _ _ (0,0) hblk0]; rfl
 have hTb0:=ht.chf hF hch0
 have HTb:Hid (∀ W,Chf m w W→Tb W):=fun W hc=>ht.chf hF hc
 clear hw0 hsz0 hal c1 f1 h1 h2 hw1
 go_upto_region 8 with (go_at_call 49; with_reducible refine (HLf.out _ hTb0).mono ?_; rintro e w1 ⟨rfl,hb1⟩)
 have hblk1:w1.heap[m+1]? = _:=(hb1.block (m+1) (by omega)).trans hblk0
 have hlst1:w1.heap[w.heap.size]? = _:=(hb1.block w.heap.size hz0).trans hlst0
 have hmp1:=hmp0.same (hb1.block m (by omega))
 have hch1:=hch0.next hb1 (by omega)
 obtain ⟨es,cl,hup,hmp2⟩:=(hmp1.same (W:=w1.drew) rfl).write (h:=0) (k:=L.length) ⟨⟨by omega,by omega⟩,by omega⟩ d0
 have hd0':nd (clk k) (L++[s]) 0 L.length=d0:=by rw [nd,← hd0]; simp
 rw [← hd0',fj_start] at hmp2
 have hch2:Chf m w (ChangeMaps.setBlock w1.drew m (.map es cl)):=(Chf.next hch1 (Below.refl _ _).drew (by omega)).put _
 have hblk2:(ChangeMaps.setBlock w1.drew m (.map es cl)).heap[m+1]? = _:=(set_other _ (by omega)).trans hblk1
 have hlst2:(ChangeMaps.setBlock w1.drew m (.map es cl)).heap[w.heap.size]? = _:=(set_other _ (by omega)).trans hlst1
 obtain ⟨w2,hw2⟩ : ∃ w2,ChangeMaps.setBlock w1.drew m (.map es cl)=w2:=⟨_,rfl⟩
 rw [hw2] at hup hmp2 hch2 hblk2 hlst2
 have x2:w1.cell? ⟨m+1,2,none⟩=some (.map (some m)):=by rw [cell_of_row w1 (m+1) 2 _ _ (0,0) hblk1]; rfl
 have y0:w1.cell? ⟨w.heap.size,0,none⟩=some (.int .i64 0):=by rw [cell_of_row w1 _ 0 _ _ (0,0) hlst1]; rfl
 have y1:w1.cell? ⟨w.heap.size,1,none⟩=some (.int .u64 (L.length:Int)):=by rw [cell_of_row w1 _ 1 _ _ (0,0) hlst1]; rfl
 unfold kv nv at hup
 clear hw2 hmp0 hmp1 hch0 hch1 hblk0 hlst0 hb1 hTb0 c0 HLf hblk1 hlst1
 have HTr:Hid (∀ W,Calls Tryz.prog 50 #[.int .u64 ((L.length:Int)+1)] W fun e w'=>e = .returned (.int .i64 (t:Int))∧W=w'):=fun W=>(trail_any (L.length+1) W (by omega) t hT).mono fun _ _ h=>⟨h.1,h.2.symm⟩
 have HAp:Hid (Ap w (w2.alloc (.cells #[.string d0] 9)) m k L s 0 (.slice (some ⟨w2.heap.size,0,none⟩) 1 1)):=by
  have hz2:w.heap.size<w2.heap.size:=(Array.getElem?_eq_some_iff.1 hlst2).1
  refine ⟨((MapKept.heap_alloc _ _).2 _ (by omega)).trans hblk2,((MapKept.heap_alloc _ _).2 _ hz2).trans ?_,hmp2.same ((MapKept.heap_alloc _ _).2 _ (by omega)),?_,hch2.next (bal (Below.refl _ _) _) (by omega)⟩
  ·rw [hlst2]; simp
  ·rw [nw_zero,List.length_append,List.length_singleton,Nat.add_sub_cancel,hd0']
   exact own_mono (own_one w2 d0) (by omega)
 have hc5:(w2.alloc (.cells #[.string d0] 9)).cell? ⟨m+1,1,none⟩=some (.int .u64 ((L.length:Int)+1)):=by rw [cell_of_row _ (m+1) 1 _ _ (0,0) HAp.out.blk]; rfl
 have hsh : ∀ q,q<w2.heap.size→(w2.alloc (.cells #[.string d0] 9)).heap[q]? = w2.heap[q]? := fun q hq=>(MapKept.heap_alloc _ _).2 _ hq
 have ht16:t≤16:=by rw [← hT]; exact tr_small (by omega) (by omega)
 clear hsh hmp2 hch2 hblk2 hlst2
 go_region
 go_wp2_with (go_at_call 50; with_reducible refine (HTr.out _).mono ?_; rintro e w3 ⟨rfl,rfl⟩)
 have HK:=hide hF
 have hkk:=clk_le k
 have HDd:Hid (d0=nd (clk k) (L++[s]) 0 ((L.length+1) / 2^0 - 1)):=by show d0=_; rw [Nat.pow_zero,Nat.div_one,Nat.add_sub_cancel,hd0']
 have HHT:=hide hT
 clear HTr hc5 x2 y0 y1 hup hd0' hd0 ht hF hs hz0 hT
 generalize w2.alloc (.cells #[.string d0] 9)=w3 at *
 generalize w2.heap.size=z2 at *
 go_loopg [7,8,50] t (fun g x v i wr => ∃ (j:Nat) (d:ByteArray),j≤t∧g=t - j∧x = .string d∧Hid (d=nd (clk k) (L++[s]) j ((L.length+1) / 2^j - 1))∧i = .int .i64 (j:Int)∧Hid (Ap w wr m k L s j v))
 case atStart =>
  go_light
  exact ⟨0,d0,Nat.zero_le _,rfl,rfl,HDd,rfl,HAp⟩
 case round =>
  clear HAp HDd
  obtain ⟨j,d,hj,rfl,rfl,HDj,rfl,HA⟩:=hrel
  by_cases hjt:j<t
  ·have hz:(j:Int)<(t:Int):=by omega
   have hz0:(0:Int)≤(j:Int):=Int.natCast_nonneg _
   have hz9:(j:Int)≤16:=by omega
   obtain ⟨q',hq'⟩:=tr_div (j:=j+1) HHT.out (by omega)
   obtain ⟨q,rfl⟩ : ∃ q,q'=q+1:=⟨q' - 1,by
    have:q'≠0:=by rintro rfl; simp at hq'
    omega⟩
   have e1:(L.length+1) / 2^(j+1) - 1=q:=by rw [last_at hq']; omega
   have e2:(L.length+1) / 2^j - 1=2 * q+1:=by
    rw [last_at (q:=2 * (q+1)) (by rw [hq',Nat.pow_succ,Nat.mul_assoc])]; omega
   obtain ⟨a,ha⟩ : ∃ a,2 * q+1=a:=⟨_,rfl⟩
   have hab:a≤L.length+1:=by rw [← ha,← e2]; exact Nat.le_trans (Nat.sub_le _ _) (Nat.div_le_self _ _)
   have ha1:(1:Int)≤(a:Int):=by omega
   have ha2:(a:Int)≤65536:=by omega
   obtain ⟨lf,hlf⟩ : ∃ lf,nd (clk k) (L++[s]) j (2 * q)=lf:=⟨_,rfl⟩
   have hb:=HA.out.blk
   have hl:=HA.out.lst
   rw [e2,ha] at hl
   have z0:wr.cell? ⟨m+1,0,none⟩=some (.int .i64 k):=by rw [cell_of_row wr (m+1) 0 _ _ (0,0) hb]; rfl
   have z2:wr.cell? ⟨m+1,2,none⟩=some (.map (some m)):=by rw [cell_of_row wr (m+1) 2 _ _ (0,0) hb]; rfl
   have l0:wr.cell? ⟨w.heap.size,0,none⟩=some (.int .i64 (j:Int)):=by rw [cell_of_row wr _ 0 _ _ (0,0) hl]; rfl
   have l1:wr.cell? ⟨w.heap.size,1,none⟩=some (.int .u64 (a:Int)):=by rw [cell_of_row wr _ 1 _ _ (0,0) hl]; rfl
   have hlook:=(HA.out.mp.same (W:=wr.drew) rfl).look (h:=(j:Int)) (k:=2 * q) ⟨⟨by omega,by omega⟩,by omega⟩ false
   rw [fj_left (clk k) L s j q hq',hlf] at hlook
   unfold kv nv at hlook
   rw [show ((2 * q:Nat):Int)=(a:Int) - 1 by omega] at hlook
   simp only [Option.getD_some,Bool.false_eq_true,if_false] at hlook
   obtain ⟨d',hd'⟩ : ∃ d',dg (clk k) (nodeT lf d)=d':=⟨_,rfl⟩
   have zl:lf.size=clk k:=by rw [← hlf]; exact nd_size hkk _ _ _
   have zd:d.size=clk k:=by rw [HDj.out]; exact nd_size hkk _ _ _
   have HNd:Hid (∀ W,Tb W→Calls Tryz.prog 51 #[.int .i64 k,.string lf,.string d] W fun e w'=>e = .returned (.string d')∧Below W.heap.size W w'):=fun W hT=>node_any W hT k lf d (by omega) (by omega) d' hd'
   have HD2:Hid (d'=nd (clk k) (L++[s]) (j+1) ((L.length+1) / 2^(j+1) - 1)):=by
    show d'=_
    rw [e1,nd,hlf,← hd',HDj.out,e2]
   have hTw:=(HTb.out wr HA.out.ch)
   have HTd:Hid (Tb wr.drew):=⟨hTw.rs⟩
   have hfl:=field_N wr.drew lf
   have HW:Hid (∀ W,Below wr.drew.heap.size wr.drew W→W.cell? ⟨w.heap.size,0,none⟩=some (.int .i64 (j:Int))∧W.cell? ⟨w.heap.size,1,none⟩=some (.int .u64 (a:Int))∧W.frozen? ⟨w.heap.size,0,none⟩=false∧W.frozen? ⟨w.heap.size,1,none⟩=false ∧
     W.heap[w.heap.size]? = some (.cells #[.int .i64 (j:Int),.int .u64 (a:Int)] 94 (0,0))∧W.heap[m+1]? = some (.cells #[.int .i64 k,.int .u64 ((L.length+1:Nat):Int),.map (some m)] 92 (0,0))∧Mp W m (fj (clk k) L s j)∧Chf m w W ∧ ∀ v l,OwnS wr (w.heap.size+1) v l→OwnS W (w.heap.size+1) v l):=fun W hbW=>by
    have hlw:=(hbW.block w.heap.size (Array.getElem?_eq_some_iff.1 hl).1).trans hl
    have hm1:m+1<wr.heap.size:=(Array.getElem?_eq_some_iff.1 hb).1
    refine ⟨?_,?_,frozen_of_row W _ 0 _ _ hlw,frozen_of_row W _ 1 _ _ hlw,hlw,(hbW.block (m+1) hm1).trans hb,HA.out.mp.same (hbW.block m (by show m<wr.heap.size; omega)),HA.out.ch.trans (Chf.of (w:=wr) ⟨hbW.os,hbW.tape,hbW.output,hbW.size,hbW.block⟩ (by omega)),fun v l ho=>own_next (w:=wr) ho ⟨hbW.os,hbW.tape,hbW.output,hbW.size,hbW.block⟩ (Nat.le_refl _)⟩
    ·rw [cell_of_row W _ 0 _ _ (0,0) hlw]; rfl
    ·rw [cell_of_row W _ 1 _ _ (0,0) hlw]; rfl
   clear hb hl zl zd hd' HDj hTw
   go_upto_region 12 with (fail)
   go_region
   go_upto_region 15 with (go_at_call 51; with_reducible refine (HNd.out _ HTd.out).mono ?_; rintro e w4 ⟨rfl,hb4⟩; obtain ⟨p0,p1,p2,p3,P⟩:=HW.out _ hb4)
   obtain ⟨hl4,hb5,hm4,hc4,ho4⟩:=P
   have es1:=heap_setCell_same w4 w.heap.size 0 _ 94 (.int .i64 ((j:Int)+1)) hl4
   have es2:=heap_setCell_same _ w.heap.size 1 _ 94 (.int .u64 ((a:Int) / 2)) es1
   have hm1:m+1<w.heap.size:=HK.out.lt
   have hnb : ∀ b,b≠w.heap.size→((w4.setCell ⟨w.heap.size,0,none⟩ (.int .i64 ((j:Int)+1))).setCell ⟨w.heap.size,1,none⟩ (.int .u64 ((a:Int) / 2))).heap[b]? = w4.heap[b]? := fun b hb =>
    (Below.heap_setCell _ ⟨w.heap.size,1,none⟩ _ b hb).trans (Below.heap_setCell _ ⟨w.heap.size,0,none⟩ _ b hb)
   have hc5:Chf m w ((w4.setCell ⟨w.heap.size,0,none⟩ (.int .i64 ((j:Int)+1))).setCell ⟨w.heap.size,1,none⟩ (.int .u64 ((a:Int) / 2))) :=
    (hc4.set 0 _ (.inr (Nat.le_refl _)) (by omega)).set 1 _ (.inr (Nat.le_refl _)) (by omega)
   have hb6:=(hnb (m+1) (by omega)).trans hb5
   have hm5:=hm4.same (hnb m (by omega))
   have ho5 : ∀ v l,OwnS wr (w.heap.size+1) v l→OwnS ((w4.setCell ⟨w.heap.size,0,none⟩ (.int .i64 ((j:Int)+1))).setCell ⟨w.heap.size,1,none⟩ (.int .u64 ((a:Int) / 2))) (w.heap.size+1) v l:=fun v l ho=>by
    obtain ⟨g1,g2⟩:=ho4 v l ho
    refine ⟨g1,?_⟩
    rcases g2 with g2 | ⟨g,cap,cur,rfl,hg,hh,r⟩
    ·exact .inl g2
    ·exact .inr ⟨g,cap,cur,rfl,hg,(hnb g (by omega)).trans hh,r⟩
   obtain ⟨w5,hw5⟩ : ∃ w5,(w4.setCell ⟨w.heap.size,0,none⟩ (.int .i64 ((j:Int)+1))).setCell ⟨w.heap.size,1,none⟩ (.int .u64 ((a:Int) / 2))=w5:=⟨_,rfl⟩
   rw [hw5] at es2 hc5 hb6 hm5
   rw [hw5]
   have hl5:w5.heap[w.heap.size]? = some (.cells #[.int .i64 ((j:Int)+1),.int .u64 ((a:Int) / 2)] 94 (0,0)):=es2
   have ho6 : ∀ v l,OwnS wr (w.heap.size+1) v l→OwnS w5 (w.heap.size+1) v l:=fun v l ho=>by rw [← hw5]; exact ho5 v l ho
   obtain ⟨es,cl,hup,hm6⟩:=(hm5.same (W:=w5.drew) rfl).write (h:=((j+1:Nat):Int)) (k:=q) ⟨⟨by omega,by omega⟩,by omega⟩ d'
   rw [show d'=nd (clk k) (L++[s]) (j+1) q by rw [HD2.out,e1],fj_step (clk k) L s j q hq'] at hm6
   have hz5:w.heap.size<w5.heap.size:=(Array.getElem?_eq_some_iff.1 hl5).1
   have hc6:Chf m w (ChangeMaps.setBlock w5.drew m (.map es cl)):=(Chf.next hc5 (Below.refl _ _).drew (by omega)).put _
   have hb7:(ChangeMaps.setBlock w5.drew m (.map es cl)).heap[m+1]? = _:=(set_other _ (by omega)).trans hb6
   have hl6:(ChangeMaps.setBlock w5.drew m (.map es cl)).heap[w.heap.size]? = _:=(set_other _ (by omega)).trans hl5
   have ho7:OwnS (ChangeMaps.setBlock w5.drew m (.map es cl)) (w.heap.size+1) u8 (nw (clk k) (L++[s]) j):=by
    obtain ⟨g1,g2⟩:=ho6 _ _ HA.out.own
    refine ⟨g1,?_⟩
    rcases g2 with g2 | ⟨g,cap,cur,e,hg,hh,r⟩
    ·exact .inl g2
    ·exact .inr ⟨g,cap,cur,e,hg,(set_other _ (by omega)).trans hh,r⟩
   obtain ⟨w6,hw6⟩ : ∃ w6,ChangeMaps.setBlock w5.drew m (.map es cl)=w6:=⟨_,rfl⟩
   rw [hw6] at hup hm6 hc6 hb7 hl6 ho7
   have x2:w5.cell? ⟨m+1,2,none⟩=some (.map (some m)):=by rw [cell_of_row w5 (m+1) 2 _ _ (0,0) hb6]; rfl
   have y0:w5.cell? ⟨w.heap.size,0,none⟩=some (.int .i64 ((j:Int)+1)):=by rw [cell_of_row w5 _ 0 _ _ (0,0) hl5]; rfl
   have y1:w5.cell? ⟨w.heap.size,1,none⟩=some (.int .u64 ((a:Int) / 2)):=by rw [cell_of_row w5 _ 1 _ _ (0,0) hl5]; rfl
   unfold kv nv at hup
   have ea:(a:Int) / 2=(q:Int):=by omega
   rw [← ea,show ((j+1:Nat):Int)=(j:Int)+1 by omega] at hup
   have HY:Hid (d'.size≤9223372036854775807):=by show d'.size≤_; rw [HD2.out,nd_size hkk]; omega
   have HO:=hide ho7
   have HZ6:Hid (w.heap.size<w6.heap.size):=(Array.getElem?_eq_some_iff.1 hl6).1
   have HLn:Hid ((nw (clk k) (L++[s]) j).length≤17):=by show _≤_; rw [nw_len]; omega
   have HG:Hid (Mp w6 m (fj (clk k) L s (j+1))∧Chf m w w6∧w6.heap[m+1]? = some (.cells #[.int .i64 k,.int .u64 ((L.length+1:Nat):Int),.map (some m)] 92 (0,0))∧w6.heap[w.heap.size]? = some (.cells #[.int .i64 ((j+1:Nat):Int),.int .u64 (((L.length+1) / 2^(j+1) - 1:Nat):Int)] 94 (0,0))∧m+1<w.heap.size) :=
    ⟨hm6,hc6,hb7,by rw [hl6,e1,← ea]; rfl,hm1⟩
   clear hw6 hw5 es1 es2 hb4 hl4 hb5 hm4 hc4 ho4 hnb hc5 hb6 hm5 ho5 hl5 ho6 hm6 hz5 hc6 hb7 hl6 ho7 hlook hfl HW HNd HTd z0 z2 l0 l1 p0 p1 p2 p3 ea hq' e1 e2 hab
   go_region
   go_wp2_with (at_builtin; refine wpList_append_S _ rfl _ _ rfl (w.heap.size+1) _ _ rfl (own_al HO.out _) (some ⟨w6.heap.size,0,none⟩) w6.heap.size 0 1 [d'] rfl (rds_one w6 d' HY.out) (fun h=>by cases h) ?c1 ?c2 ?_)
   case c1=>have:=HLn.out; simp; omega
   case c2=>have:=HZ6.out; simp; omega
   intro v2 w7 h7 hb7
   have HA2:Hid (Ap w w7 m k L s (j+1) v2):=by
    obtain ⟨g1,g2,g3,g4,g5⟩:=HG.out
    have hz6:=HZ6.out
    have hbb:Below (w.heap.size+1) w6 w7:=((Below.refl _ _).alloc (by omega) _).trans hb7
    have hcc:Chf m w w7:=⟨g2.below.trans (hbb.mono (by omega)),fun b hb x y=>(hbb.block b (by omega)).trans (g2.block b hb x y)⟩
    refine ⟨(hbb.block _ (by omega)).trans g3,(hbb.block _ (by omega)).trans g4,g1.same (hbb.block m (by omega)),?_,hcc⟩
    rw [nw_succ,List.length_append,List.length_singleton,← HD2.out]
    exact h7
   clear h7 hb7
   go_wp2
   go_roundg (t - (j+1))
   case rel =>
    go_light
    exact ⟨j+1,d',by omega,rfl,rfl,HD2,by go_num,HA2⟩
   case measure=>go_light; omega
  ·obtain rfl:j=t:=by omega
   have hz : ¬ ((j:Int)<(j:Int)):=by omega
   go_wp2
   go_ret2
   have hm2:=HA.out.mp
   rw [fj_end (clk k) L s j hL HHT.out] at hm2
   refine ⟨_,rfl,⟨?_,hm2,HK.out.k1,HK.out.k2,by simp; omega⟩,own_mono HA.out.own (by omega),HA.out.ch⟩
   rw [HA.out.blk]
   simp
end Go.Proofs.YtipcenbndhnnhaaGreatDoor
namespace Go.Proofs.YtipcenbndhnnhaaGreatDoor
open Go.RowKit
structure Wy (n i:Nat) (A:List (Nat×Nat)) (H:Nat) (B:List (Nat×Nat)):Prop where
 all:Cv.dnL 41 0 n=A++(H,i / 2^H)::B
 hH:H≤40
 left : ∀ a∈A,(a.2+1) * 2^a.1≤i
 right : ∀ b∈B,i<b.2 * 2^b.1
theorem dn_ge (n:Nat) : ∀ h lo,2^h ∣ lo → ∀ b∈Cv.dnL h lo n,lo≤b.2 * 2^b.1
 | 0,lo,_,b,hb=>by cases hb
 | h+1,lo,hd,b,hb=>by
  have hp:=Nat.two_pow_pos h
  have hd':2^h ∣ lo:=Nat.dvd_trans (Nat.pow_dvd_pow 2 (by omega)) hd
  rw [Cv.dnL,show Pl.pw h=2^h from rfl] at hb
  split at hb
  ·rcases List.mem_cons.1 hb with rfl | hb
   ·show lo≤lo / 2^h * 2^h
    rw [Nat.div_mul_cancel hd']
    exact Nat.le_refl _
   ·have:=dn_ge n h (lo+2^h) (Nat.dvd_add hd' (Nat.dvd_refl _)) b hb
    omega
  ·exact dn_ge n h lo hd' b hb
theorem dn_has (n i:Nat) (hi:i<n) : ∀ h lo,lo≤i→n - lo<2^h→2^h ∣ lo → ∃ A H B,Cv.dnL h lo n=A++(H,i / 2^H)::B∧H<h∧(∀ a∈A,(a.2+1) * 2^a.1≤i) ∧ ∀ b∈B,i<b.2 * 2^b.1
 | 0,lo,h1,h2,_=>by rw [Nat.pow_zero] at h2; omega
 | h+1,lo,h1,h2,hd=>by
  have hp:=Nat.two_pow_pos h
  have hd':2^h ∣ lo:=Nat.dvd_trans (Nat.pow_dvd_pow 2 (by omega)) hd
  have hd2:2^h ∣ lo+2^h:=Nat.dvd_add hd' (Nat.dvd_refl _)
  rw [Nat.pow_succ] at h2
  rw [Cv.dnL,show Pl.pw h=2^h from rfl]
  by_cases hf:2^h≤n - lo
  ·rw [if_pos hf]
   by_cases hm:i<lo+2^h
   ·refine ⟨[],h,Cv.dnL h (lo+2^h) n,?_,by omega,(fun a ha=>by cases ha),fun b hb => ?_⟩
    ·have:i / 2^h=lo / 2^h:=by
      obtain ⟨q,rfl⟩:=hd'
      rw [Nat.mul_div_cancel_left _ hp]
      exact Nat.div_eq_of_lt_le (by rw [Nat.mul_comm]; omega) (by rw [Nat.add_mul,Nat.mul_comm]; omega)
     rw [this]; rfl
    ·have:=dn_ge n h _ hd2 b hb
     omega
   ·obtain ⟨A,H,B,e,hH,hl,hr⟩:=dn_has n i hi h (lo+2^h) (by omega) (by omega) hd2
    refine ⟨(h,lo / 2^h)::A,H,B,by rw [e]; rfl,by omega,fun a ha => ?_,hr⟩
    rcases List.mem_cons.1 ha with rfl | ha
    ·show (lo / 2^h+1) * 2^h≤i
     rw [Nat.add_mul,Nat.div_mul_cancel hd']
     omega
    ·exact hl a ha
  ·rw [if_neg hf]
   obtain ⟨A,H,B,e,hH,hl,hr⟩:=dn_has n i hi h lo h1 (by omega) hd'
   exact ⟨A,H,B,e,by omega,hl,hr⟩
theorem wy_ex (n i:Nat) (hn:n≤2^40) (hi:i<n) : ∃ A H B,Wy n i A H B:=by
 obtain ⟨A,H,B,e,hH,hl,hr⟩:=dn_has n i hi 41 0 (Nat.zero_le _) (by omega) (Nat.dvd_zero _)
 exact ⟨A,H,B,e,by omega,hl,hr⟩
section
variable {n i H:Nat} {A B:List (Nat×Nat)}
theorem Wy.len (h:Wy n i A H B):A.length+B.length≤40:=by
 have:=Cv.dn_len 41 0 n
 rw [h.all,List.length_append,List.length_cons] at this
 omega
theorem Wy.no_left (h:Wy n i A H B) {a:Nat×Nat} (ha:a∈A):a.2<i / 2^a.1:=by
 have:=h.left a ha
 exact (Nat.le_div_iff_mul_le (Nat.two_pow_pos _)).2 this
theorem Wy.no_right (h:Wy n i A H B) {b:Nat×Nat} (hb:b∈B):i / 2^b.1<b.2:=by
 have:=h.right b hb
 exact (Nat.div_lt_iff_lt_mul (Nat.two_pow_pos _)).2 this
end
theorem dn_in (n:Nat) (hn:n≤2^40) : ∀ b∈Cv.dnL 41 0 n,(b.2+1) * 2^b.1≤n:=by
 have:=(cov_peaks 1 (List.replicate n ByteArray.empty) n (by simp) hn).2
 rwa [Cv.cov_zero n hn] at this
def sb (q:Nat):Nat:=if q % 2=1 then q - 1 else q+1
def bes (i:Nat) (H:Nat):List (Nat×Nat):=(List.range H).map fun h=>(h,sb (i / 2^h))
theorem bes_len (i H:Nat):(bes i H).length=H:=by simp [bes]
theorem bes_succ (i H:Nat):bes i (H+1)=bes i H++[(H,sb (i / 2^H))]:=by simp [bes,List.range_succ]
theorem half_next (i h:Nat):i / 2^h / 2=i / 2^(h+1):=by rw [Nat.div_div_eq_div_mul,← Nat.pow_succ]
def stT (q:Nat) (d x:ByteArray):ByteArray:=if q % 2=1 then nodeT x d else nodeT d x
def rs (c:Nat):Nat→ByteArray→List ByteArray→ByteArray
 | _,d,[]=>d
 | q,d,x::r=>rs c (q / 2) (dg c (stT q d x)) r
theorem rs_app (c:Nat) (x:ByteArray) : ∀ (D:List ByteArray) (q:Nat) (d:ByteArray),rs c q d (D++[x])=dg c (stT (q / 2^D.length) (rs c q d D) x)
 | [],q,d=>by simp [rs]
 | y::r,q,d=>by
  rw [List.cons_append,rs,rs_app c x r,rs,List.length_cons,Nat.pow_succ,Nat.div_div_eq_div_mul,Nat.mul_comm 2]
theorem rs_size {c:Nat} (hc:c≤32) : ∀ (D:List ByteArray) (q:Nat) (d:ByteArray),d.size=c→(rs c q d D).size=c
 | [],_,_,h=>h
 | y::r,q,d,_=>by
  rw [rs]
  exact rs_size hc r _ _ (dg_size hc _)
def pkP (c i:Nat) (a H:Nat) (D:List ByteArray) (x:ByteArray):List ByteArray:=(D.drop H).take a++rs c i (dg c (leafT x)) (D.take H)::(D.drop H).drop a
def rtP (c n i a H:Nat) (D:List ByteArray) (x:ByteArray):ByteArray:=dg c (rootT n (bagL c (pkP c i a H D x)))
end Go.Proofs.YtipcenbndhnnhaaGreatDoor
