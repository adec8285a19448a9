/- Own work. -/
import Derived.BigQuiet
import Derived.ScopeJumps
import Derived.Lib.SliceRun
import Derived.WalkMore
import Derived.Test.YtoblgjledefdbaaGreatDoorQf03
namespace Go.Proofs.YtoblgjledefdbaaGreatDoor.Kp
open Go.RowKit
open Pl (ones)
attribute [local go_sem ↓] Go.wp_at_zero Go.wp_at_succ
theorem u64_id (x:Int) (h0:0≤x) (h1:x<18446744073709551616):IntKind.u64.wrap x=x:=by
 simp [IntKind.wrap,IntKind.signed,IntKind.bits]; omega
theorem trail_any (n:Nat) (w:World) (hn:n<2^64) (t:Nat) (ht:tr 64 n=t) :
  Calls Tryz.prog 253 #[.int .u64 n] w fun e w'=>e = .returned (.int .i64 (t:Int))∧w'=w:=by
 subst ht
 go_enter Tryz.func253,Tryz.ntmps253
 go_wp2
 go_loopg [4] 64 (fun g i wr => ∃ k:Nat,k≤64∧g=64 - k∧i = .int .i64 k∧k+tr (64 - k) (n / 2^k)=tr 64 n∧w=wr)
 case atStart =>
  go_light
  exact ⟨0,Nat.zero_le _,rfl,rfl,by simp,rfl⟩
 case round =>
  obtain ⟨k,hk,rfl,rfl,hs,rfl⟩:=hrel
  have hk0:(0:Int)≤(k:Int):=Int.natCast_nonneg _
  by_cases hlt:k<64
  ·have hk8:(k:Int)<64:=by omega
   have HC:=Pl.isOne_any n k w hn hlt
   have HS:=tr_step k n hlt
   by_cases hb:n / 2^k % 2=1
   ·rw [if_pos hb] at HS
    rw [decide_eq_true hb] at HC
    go_wp2_with (go_at_call 224; refine HC.mono ?_; rintro e w' ⟨rfl,rfl⟩)
    go_ret
    refine ⟨?_,rfl⟩
    rw [← hs,HS]
    rfl
   ·rw [if_neg hb] at HS
    rw [decide_eq_false hb] at HC
    go_wp2_with (go_at_call 224; refine HC.mono ?_; rintro e w' ⟨rfl,rfl⟩)
    go_roundg (64 - (k+1))
    case rel =>
     go_light
     exact ⟨k+1,by omega,rfl,by go_num,by omega,rfl⟩
    case measure=>go_light; omega
  ·obtain rfl:k=64:=by omega
   clear hk hlt
   go_wp2
   go_ret
   refine ⟨?_,rfl⟩
   rw [← hs]
   rfl
theorem pow_yes (h:Nat) (w:World) (hh:h<64) (p:Nat) (hp:2^h=p) :
  Calls Tryz.prog 394 #[.int .i64 h] w fun e w'=>e = .returned (.tuple #[.int .u64 (p:Int),.bool true])∧w'=w:=by
 have hk0:(0:Int)≤(h:Int):=Int.natCast_nonneg _
 have hk1:(h:Int)<64:=by omega
 have e1:IntKind.u64.wrap ((2:Int)^h)=(p:Int):=by
  have:=Nat.pow_lt_pow_right (a:=2) (by decide) hh
  have e:((2:Int)^h)=(p:Int):=by rw [← hp]; simp
  rw [hp] at this
  rw [e,IntKind.wrap_u64]; omega
 clear hp
 go_enter Tryz.func394,Tryz.ntmps394
 go_wp2
 go_ret2
 exact ⟨rfl,rfl⟩
theorem items_any (h:Nat) (w:World) (hh:h≤40) (p:Nat) (hp:2^h=p) :
  Calls Tryz.prog 331 #[.int .i64 h] w fun e w'=>e = .returned (.int .u64 (p:Int))∧w'=w:=by
 have HP:=pow_yes h w (by omega) p hp
 clear hp
 go_enter Tryz.func331,Tryz.ntmps331
 go_wp2_with (go_at_call 394; refine HP.mono ?_; rintro e w' ⟨rfl,rfl⟩)
 go_ret
 exact ⟨rfl,rfl⟩
theorem own_empty (w:World):OwnS (w.alloc (.cells #[] 9)) w.heap.size (.slice (some ⟨w.heap.size,0,none⟩) 0 0) [] :=
 ⟨rfl,.inr ⟨w.heap.size,0,#[],rfl,Nat.le_refl _,heap_alloc_new w _,Nat.le_refl _,Nat.zero_le _,rfl,rfl⟩⟩
theorem own_one (w:World) (s:ByteArray):OwnS (w.alloc (.cells #[.string s] 9)) w.heap.size (.slice (some ⟨w.heap.size,0,none⟩) 1 1) [s] :=
 ⟨rfl,.inr ⟨w.heap.size,1,#[.string s],rfl,Nat.le_refl _,heap_alloc_new w _,Nat.le_refl _,by unfold maxLen; omega,rfl,rfl⟩⟩
theorem own_mono {w:World} {B B':Nat} {v:Value} {l:List ByteArray} (h:OwnS w B v l) (hB:B'≤B):OwnS w B' v l:=by
 obtain ⟨h1,h2⟩:=h
 refine ⟨h1,?_⟩
 rcases h2 with h2 | ⟨g,cap,cur,hv,hg,h3⟩
 ·exact .inl h2
 ·exact .inr ⟨g,cap,cur,hv,by omega,h3⟩
set_option maxRecDepth 100000 in
theorem clone_any (w:World) (ao:Option Addr) (b off cap:Nat) (P:List ByteArray) (hr:RdS w ao b off P.length P) (hn:ao=none→cap=0) (hmx:P.length≤8796093022208) :
  Calls Tryz.prog 158 #[.slice ao P.length cap] w fun e w' => ∃ v,e = .returned v∧OwnS w' w.heap.size v P∧Below w.heap.size w w':=by
 have qT : ∀ (w:World) (a:Option Addr) (n c n' c':Nat),(binOp .eql 22 (.slice a n c) (.slice none n' c')).run Tryz.prog w = .ok (.bool a.isNone) w:=fun w a n c n' c'=>Lib.run_eql_slice_nil w _ _ a n c n' c' Tryz.underlying22
 cases ao with
 | none =>
  obtain rfl:=hn rfl
  have hP:P=[]:=by
   cases P with
   | nil=>rfl
   | cons m r=>exact absurd (hr.ptr (by simp)) (by simp)
  subst hP
  clear hr hmx hn
  go_enter Tryz.func158,Tryz.ntmps158
  go_wp2
  go_ret
  exact ⟨_,rfl,owns_nil w _,Below.refl _ _⟩
 | some ad =>
  have HR:Hid (∀ o,RdS (w.alloc o) (some ad) b off P.length P):=fun o=>hr.next (bal (Below.refl _ _) o) (Nat.le_refl _)
  have HM:=hide hmx
  clear hr hn hmx
  go_enter Tryz.func158,Tryz.ntmps158
  go_wp2_with (at_builtin; refine wpList_append_S _ rfl _ _ rfl w.heap.size _ [] rfl (own_empty w) (some ad) b off cap P rfl (HR.out _) (fun h=>by cases h) ?c1 ?c2 ?_)
  case c1=>have:=HM.out; simp; omega
  case c2=>simp
  intro v1 w1 h1 hb1
  have HX:Hid (OwnS w1 w.heap.size v1 P∧Below w.heap.size w w1):=⟨by simpa using h1,(bal (Below.refl _ _) _).trans hb1⟩
  clear h1 hb1
  go_wp2
  go_ret
  exact ⟨_,rfl,HX.out.1,HX.out.2⟩
theorem clip_any (w:World) (ao:Option Addr) (len cap:Nat) (hc:len≤cap) :
  Calls Tryz.prog 332 #[.slice ao len cap] w fun e w'=>e = .returned (.slice ao len len)∧w'=w:=by
 have hc':(len:Int)≤(cap:Int):=by omega
 clear hc
 go_enter Tryz.func332,Tryz.ntmps332
 go_wp2
 go_ret
 exact ⟨rfl,rfl⟩
theorem wpList_append_clip (w:World) {ops:Array Oper} {rest:List Oper} {o:Oper} {a:Act} {Q:Exit→Act→World→Prop}
  (hg:o.guard=none) (s x:Operand) (hop:o.op=Op.call { callee:=Callee.builtin Builtin.append,args:=#[s,x],argTypes:=#[22,22] })
  (ao:Option Addr) (b:Nat) (P:List ByteArray) (hs:a.eval s = .slice ao P.length P.length) (hr:RdS w ao b 0 P.length P) (ad:Addr) (d:ByteArray) (hx:a.eval x = .slice (some ad) 1 1) (hc:w.cell? ad=some (.string d))
  (hlen:P.length≤1000)
  (hK : ∀ v' w',OwnS w' w.heap.size v' (P++[d])→Below w.heap.size w w'→wpList Tryz.prog ops Q rest (a.put o.dst v') w'):wpList Tryz.prog ops Q (o::rest) a w:=by
 obtain ⟨i0,hi,hz0,hz1,hz2⟩:=info_parts Tryz.infoS
 have hnews : ∀ j u,[Value.string d][j]? = some u→w.cell? (ad.add j)=some u:=by
  intro j u hj
  match j,hj with
  | 0,hj=>simp at hj; subst hj; simpa [Addr.add] using hc
 refine wpList_append_grows w hg s x _ hop 9 i0 (.string ByteArray.empty) 1 16 Tryz.underlying22 hi hz0 hz1 hz2 rfl (by decide) ao P.length P.length (P.map Value.string) hs (fun h => ?_) (by simp) (fun ad' h j u hu => ?_) ad 1 1 [.string d] hx rfl hnews (by intro u hu; simp at hu; subst hu; rfl) (by omega) (by unfold maxLen; omega) (by omega) ?_
 ·by_cases h0:0<P.length
  ·have:=hr.ptr h0; rw [h] at this; cases this
  ·omega
 ·have hj:j<P.length:=by have:=(List.getElem?_eq_some_iff.1 hu).1; rwa [List.length_map] at this
  have e:=hr.ptr (by omega)
  rw [h] at e
  cases e
  rw [Addr.add_mid]; exact hr.rng j u hu
 ·intro v' w' h1 h2
  refine hK v' w' ?_ ((Below.refl _ _).grown h2 (Nat.le_refl _) (fun k hk=>by cases hk))
  rw [OwnS,List.length_append,List.map_append]; exact h1
structure Rg (w:World) (p:Nat) (v:Value) (k:Int) (n:Nat) (P:List ByteArray):Prop where
 blk:w.heap[p]? = some (.cells #[.int .i64 k,.int .u64 (n:Int),v] 234 (0,0))
 own:OwnS w 0 v P
 k1:1≤k
 k2:k≤32
 hn:n≤1099511627776
 hl:P.length=(hts n).length
 hs : ∀ s∈P,s.size=clk k
section
variable {w W:World} {p q:Nat} {v u:Value} {k k':Int} {n n':Nat} {P P':List ByteArray}
theorem Rg.lt (h:Rg w p v k n P):p<w.heap.size:=(Array.getElem?_eq_some_iff.1 h.blk).1
theorem Rg.c0 (h:Rg w p v k n P):w.cell? ⟨p,0,none⟩=some (.int .i64 k):=by rw [cell_of_row w p 0 _ _ (0,0) h.blk]; rfl
theorem Rg.c1 (h:Rg w p v k n P):w.cell? ⟨p,1,none⟩=some (.int .u64 (n:Int)):=by rw [cell_of_row w p 1 _ _ (0,0) h.blk]; rfl
theorem Rg.c2 (h:Rg w p v k n P):w.cell? ⟨p,2,none⟩=some v:=by rw [cell_of_row w p 2 _ _ (0,0) h.blk]; rfl
theorem Rg.fz (h:Rg w p v k n P) (j:Nat):w.frozen? ⟨p,j,none⟩=false:=frozen_of_row w p j _ _ h.blk
theorem Rg.short (h:Rg w p v k n P):P.length≤41:=by rw [h.hl]; exact hts_le n
theorem Rg.small (h:Rg w p v k n P) : ∀ s∈P,s.size≤140737488351232:=fun s hs=>by rw [h.hs s hs]; have:=clk_le k; omega
theorem Rg.next {B:Nat} (h:Rg w p v k n P) (hb:Below B w W) (hB:w.heap.size≤B):Rg W p v k n P :=
 ⟨by rw [hb.block p (Nat.lt_of_lt_of_le h.lt hB)]; exact h.blk,own_next h.own hb hB,h.k1,h.k2,h.hn,h.hl,h.hs⟩
theorem Rg.rd (h:Rg w p v k n P) : ∃ ao b cap,v = .slice ao P.length cap∧RdS w ao b 0 P.length P∧P.length≤cap∧(ao=none→cap=0) :=
 owns_rds h.own (fun s hs=>Nat.le_trans (h.small s hs) (by decide))
end
structure Ch (p:Nat) (w w':World):Prop where
 below:Below p w w'
 block : ∀ q,q<w.heap.size→q≠p→w'.heap[q]? = w.heap[q]?
theorem Ch.of {p:Nat} {w w':World} (h:Below w.heap.size w w') (hp:p<w.heap.size):Ch p w w':=⟨h.mono (Nat.le_of_lt hp),fun q hq _=>h.block q hq⟩
theorem Ch.set {p:Nat} {w w':World} (h:Ch p w w') (i:Nat) (v:Value):Ch p w (w'.setCell ⟨p,i,none⟩ v):=by
 refine ⟨h.below.setCell (p:=⟨p,i,none⟩) (Nat.le_refl _) v,fun q hq hne => ?_⟩
 rw [← h.block q hq hne]
 exact Below.heap_setCell _ _ _ _ hne
theorem jump_mono {l:Nat} {J J':Act→World→Prop} {Q:Exit→Act→World→Prop} (h : ∀ a w,J a w→J' a w) : ∀ e a w,Exit.jump l J Q e a w→Exit.jump l J' Q e a w:=by
 intro e a w hq
 cases e with
 | goto l'=>exact ⟨hq.1,h _ _ hq.2⟩
 | _=>exact hq
theorem wp_scope_one {P:Program} {a:Act} {w:World} {Q:Exit→Act→World→Prop} {c X:Code} (l:Nat) (J:Act→World→Prop) (μ:Act→World→Nat) (hf:findLabel c l=some (Code.skip.seq X))
  (pass : ∀ a w,J a w→X.wp P (Exit.jump l (fun a' w'=>J a' w'∧μ a' w'<μ a w) Q) a w)
  (first:(∀ a w,J a w→X.wp P (Exit.jump l J Q) a w)→c.wp P (Exit.jump l J Q) a w):(Code.scope c).wp P Q a w :=
 wp_scope_jumps l J μ hf (first fun a w h=>wp_mono (pass a w h) (jump_mono fun _ _ h=>h.1)) fun a w h=>wp_seq (wp_skip (pass a w h))
def slen:Value→Nat
 | .slice _ n _=>n
 | _=>0
def Apart (v u:Value):Prop := ∀ g,v.ownBlock=some g→u.ownBlock=some g→False
structure Did (w w':World) (p:Nat) (v:Value) (k:Int) (n':Nat) (P':List ByteArray) (vm:Value) (M:List ByteArray) (v':Value):Prop where
 rg:Rg w' p v' k n' P'
 own:OwnS w' w.heap.size vm M
 ch:Ch p w w'
 new:v'=v ∨ ∀ g,v'.ownBlock=some g→w.heap.size≤g
 apart:Apart vm v'
theorem own_setp {w:World} {B p i:Nat} {v x:Value} {l:List ByteArray} (h:OwnS w B v l) (hp:p<B):OwnS (w.setCell ⟨p,i,none⟩ x) B v l:=by
 obtain ⟨h1,h2⟩:=h
 refine ⟨h1,?_⟩
 rcases h2 with h2 | ⟨g,cap,cur,rfl,hg,hh,r⟩
 ·exact .inl h2
 ·exact .inr ⟨g,cap,cur,rfl,hg,by rw [← hh]; exact Below.heap_setCell _ _ _ _ (by show g≠p; omega),r⟩
structure At (w wr:World) (c h t f left:Nat) (d:ByteArray) (A0 P' M Q:List ByteArray) (vm:Value) (ao:Option Addr) (b len cap:Nat):Prop where
 hlen:P'.length=len
 hleft:left=2^h * t
 ht:t<2^f
 hf:h+f=40
 hd:d.size=c
 hP : ∀ s∈P',s.size=c
 hl:P'.length=(ol (fun h _=>h) 41 left).length
 hA:A0.length≤h
 hM:A0++(carry c f t P' d).1=M
 hQ:(carry c f t P' d).2=Q
 own:OwnS wr w.heap.size vm (A0++[d])
 rd:RdS w ao b 0 len P'
 cap:len≤cap
 below:Below w.heap.size w wr
theorem At.next {w wr W:World} {c h t f left:Nat} {d:ByteArray} {A0 P' M Q:List ByteArray} {vm:Value} {ao:Option Addr} {b len cap:Nat} (s:At w wr c h t f left d A0 P' M Q vm ao b len cap) (hb:Below wr.heap.size wr W):At w W c h t f left d A0 P' M Q vm ao b len cap :=
 ⟨s.hlen,s.hleft,s.ht,s.hf,s.hd,s.hP,s.hl,s.hA,s.hM,s.hQ,own_next s.own hb (Nat.le_refl _),s.rd,s.cap,bnext s.below hb⟩
theorem At.lt {w wr:World} {c h t f left:Nat} {d:ByteArray} {A0 P' M Q:List ByteArray} {vm:Value} {ao:Option Addr} {b len cap:Nat} (s:At w wr c h t f left d A0 P' M Q vm ao b len cap):left<1099511627776:=by
 rw [s.hleft,show 1099511627776=2^(h+f) by rw [s.hf],Nat.pow_add]
 exact Nat.mul_lt_mul_of_pos_left s.ht (Nat.two_pow_pos h)
theorem At.pop {w wr W:World} {c h t f left:Nat} {d d':ByteArray} {A0 P' M Q:List ByteArray} {vm vm':Value} {ao:Option Addr} {b m cap:Nat} (hc:c≤32) (s:At w wr c h t f left d A0 P' M Q vm ao b (m+1) cap) (ho:t % 2=1) (hd:dg c (nodeT (P'.getD m ByteArray.empty) d)=d') (hb:Below w.heap.size w W) (ho':OwnS W w.heap.size vm' ((A0++[d])++[d'])) :
  ∃ f',At w W c (h+1) (t / 2) f' (left - 2^h) d' (A0++[d]) (P'.take m) M Q vm' ao b m cap:=by
 have hf:=s.hf
 have hlt:=s.ht
 have hl:=s.hl
 have hlen:=s.hlen
 have hcap:=s.cap
 have hA:=s.hA
 have hrd:=s.rd
 cases f with
 | zero=>simp at hlt; omega
 | succ f =>
  have hM:=s.hM
  have hQ:=s.hQ
  have e:P'.length - 1=m:=by omega
  rw [carry_odd ho (d':=d') (by rw [e]; exact hd),e] at hM hQ
  rw [s.hleft] at hl ⊢
  rw [ol_odd _ (by omega) ho,List.length_append,List.length_singleton] at hl
  rw [Nat.pow_succ] at hlt
  refine ⟨f,⟨by rw [List.length_take]; omega,(step_num ho).1,by omega,by omega,by rw [← hd]; exact dg_size hc _,fun s' hs=>s.hP s' (List.mem_of_mem_take hs),by rw [(step_num ho).1,List.length_take]; omega,by simp; omega,by rw [← hM]; simp,hQ,ho',?_,by omega,hb⟩⟩
  refine ⟨by rw [List.length_take]; omega,fun h0=>hrd.ptr (by omega),fun j v hv => ?_,fun s hs=>hrd.sz s (List.mem_of_mem_take hs)⟩
  rw [List.map_take,List.getElem?_take] at hv
  split at hv
  ·exact hrd.rng j v hv
  ·cases hv
def LayJ (w:World) (p gr c:Nat) (M Q:List ByteArray) (a':Act) (w':World):Prop := ∃ (h t f left:Nat) (d:ByteArray) (A0 P':List ByteArray) (vm:Value) (ao:Option Addr) (b len cap:Nat) (u11 u12 u13 u14 u15 u16 u17 u18 u19 u20 u21 u22 u23 u24 u25 u26 u27 u28 u29 u30 u31 u32 u33 u34 u35 u36 u37 u38 u39 u40 u41 u42 u43 u44 u45 u46 u47 u48 u49 u50 u51 u52 u53 u54 u55 u56 u57 u58:Value),
  a' = { tmps:=#[.pointer (some ⟨p,0,none⟩),.int .i64 (h:Int),.string d,undef,undef,undef,.slice none 0 0,vm,.int .u64 (gr:Int),.slice ao len cap,.int .u64 (left:Int),u11,u12,u13,u14,u15,u16,u17,u18,u19,u20,u21,u22,u23,u24,u25,u26,u27,u28,u29,u30,u31,u32,u33,u34,u35,u36,u37,u38,u39,u40,u41,u42,u43,u44,u45,u46,u47,u48,u49,u50,u51,u52,u53,u54,u55,u56,u57,u58,undef,undef,undef,undef,undef,undef,undef,undef,undef,undef,undef,undef,undef],defers:=[] } ∧
  At w w' c h t f left d A0 P' M Q vm ao b len cap
def muL (a':Act) (_:World):Nat:=slen (a'.tmps.getD 9 undef)
set_option maxRecDepth 100000 in
set_option maxHeartbeats 1000000 in
theorem lay_any (w:World) (ht:Tb w) (p:Nat) (v:Value) (k:Int) (n:Nat) (P:List ByteArray) (hr:Rg w p v k n P) (h:Nat) (hh:h≤40) (d:ByteArray) (hd:d.size=clk k) (h0:n % 2^h=0) (gr:Nat) (hgr0:n+2^h=gr) (h1:gr≤1099511627776) (M Q:List ByteArray) (hM:Hid (mk (clk k) n P h d=(M,Q))) :
  Calls Tryz.prog 251 #[.pointer (some ⟨p,0,none⟩),.int .i64 (h:Int),.string d] w fun e w' => ∃ vm v',e = .returned vm∧Did w w' p v k gr Q vm M v':=by
 obtain ⟨ao,b,cap,hv,hrd,hcap,hno⟩:=hr.rd
 obtain ⟨q,hq⟩ : ∃ q,2^h=q:=⟨_,rfl⟩
 have hgr:n+q=gr:=by rw [← hq]; exact hgr0
 have HI:Hid (∀ W,Calls Tryz.prog 331 #[.int .i64 (h:Int)] W fun e w'=>e = .returned (.int .u64 (q:Int))∧w'=W):=fun W=>items_any h W hh q hq
 have hg1:IntKind.u64.wrap ((n:Int)+(q:Int))=(gr:Int):=by rw [u64_id _ (by omega) (by omega)]; omega
 have HRg:Hid (∀ W,Below w.heap.size w W→Rg W p v k n P):=fun W hb=>hr.next hb (Nat.le_refl _)
 have HTb:Hid (∀ W,Below w.heap.size w W→Tb W):=fun W hb=>ht.next hb
 have c1:=fun o=>(HRg.out _ (bal (Below.refl _ _) o)).c1
 have c2:=fun o=>(HRg.out _ (bal (Below.refl _ _) o)).c2
 rw [hv] at c2
 have HS:Hid (At w (w.alloc (.cells #[.string d] 9)) (clk k) h (n / 2^h) (40 - h) n d [] P M Q (.slice (some ⟨w.heap.size,0,none⟩) 1 1) ao b P.length cap):=by
  have hn:=hr.hn
  have hdm:=Nat.div_add_mod n (2^h)
  refine ⟨rfl,by omega,?_,by omega,hd,hr.hs,hr.hl,Nat.zero_le _,by rw [List.nil_append]; exact congrArg Prod.fst hM.out,congrArg Prod.snd hM.out,own_one w d,hrd,hcap,bal (Below.refl _ _) _⟩
  rw [Nat.div_lt_iff_lt_mul (Nat.two_pow_pos h),← Nat.pow_add,show 40 - h+h=40 by omega]
  have:=Nat.two_pow_pos h
  omega
 have HN:Hid (n≤1099511627776∧gr≤1099511627776∧Q.length=(hts gr).length∧(∀ s∈Q,s.size=clk k)∧1≤k∧k≤32):=by
  have eQ:(carry (clk k) (40 - h) (n / 2^h) P d).2=Q:=congrArg Prod.snd hM.out
  refine ⟨hr.hn,h1,?_,?_,hr.k1,hr.k2⟩
  ·rw [← eQ,carry_len (clk k) 41 (40 - h) h (n / 2^h) P d (by omega) HS.out.ht (by rw [← HS.out.hleft]; exact hr.hl),← HS.out.hleft,hgr0]; rfl
  ·rw [← eQ]; exact (carry_size (clk_le k) _ _ _ _ hr.hs hd).2
 have HP0:Hid (p<w.heap.size):=hr.lt
 have HV:=hide hv
 clear hM hgr hgr0 hq h1 h0 hh ht hr hrd hcap hno hd
 go_enter Tryz.func251,Tryz.ntmps251
 go_wp2
 refine wp_scope_one 0 (LayJ w p gr (clk k) M Q) muL rfl ?pass ?first
 case first =>
  intro HP
  have HP2:=hide HP
  clear HP
  go_wp2
  go_quiet ((go_at_call 331; refine Calls.quiet_of_same (HI.out _)))
  go_wp2
  go_quiet (fail)
  go_wp2
  go_step3
  rename_i K0 hK0
  refine hK0 _ _ (HP2.out _ _ ⟨h,n / 2^h,40 - h,n,d,[],P,_,ao,b,P.length,cap,_,_,_,_,_,_,_,_,_,_,_,_,_,_,_,_,_,_,_,_,_,_,_,_,_,_,_,_,_,_,_,_,_,_,_,_,_,_,_,_,_,_,_,_,_,_,_,_,rfl,HS.out.next ?_⟩)
  exact below_drewN (below_drewN (Below.refl _ _) _) _
 case pass =>
  clear HS HI hg1 c1 c2 h d
  rintro a' w' ⟨h,t,f,left,d,A0,P',vm,ao',b',len,cap',u11,u12,u13,u14,u15,u16,u17,u18,u19,u20,u21,u22,u23,u24,u25,u26,u27,u28,u29,u30,u31,u32,u33,u34,u35,u36,u37,u38,u39,u40,u41,u42,u43,u44,u45,u46,u47,u48,u49,u50,u51,u52,u53,u54,u55,u56,u57,u58,rfl,HA0⟩
  have HA:=hide HA0
  have hlt:=HA0.lt
  have HLt:=hide hlt
  clear HA0 hlt
  by_cases ho:t % 2=1
  ·have hh:h≤39:=by
    have h1:=HA.out.hf
    have h2:=HA.out.ht
    apply Nat.le_of_not_lt
    intro h3
    obtain rfl:f=0:=by omega
    simp at h2
    omega
   have hT:tr 64 left=h:=by
    rw [tr_eq 64 h left (by omega),HA.out.hleft,(pow_num h t).2]
    exact ⟨(pow_num h t).1,ho⟩
   have HT:Hid (∀ W,Calls Tryz.prog 253 #[.int .u64 (left:Int)] W fun e w'=>e = .returned (.int .i64 (h:Int))∧W=w'):=fun W=>(trail_any left W (by have:=HLt.out; omega) h hT).mono fun _ _ h=>⟨h.1,h.2.symm⟩
   obtain ⟨m,rfl⟩ : ∃ m,len=m+1:=by
    have h1:=HA.out.hl
    rw [HA.out.hleft,ol_odd _ (by omega) ho,List.length_append,List.length_singleton,HA.out.hlen] at h1
    exact ⟨len - 1,by omega⟩
   obtain ⟨q,hq⟩ : ∃ q,2^h=q:=⟨_,rfl⟩
   obtain ⟨l2,hl2⟩ : ∃ l2,left - 2^h=l2:=⟨_,rfl⟩
   obtain ⟨h2,hh2⟩ : ∃ h2,h+1=h2:=⟨_,rfl⟩
   have hql:q≤left:=by
    rw [HA.out.hleft,← hq]
    exact Nat.le_mul_of_pos_right _ (by omega)
   have HI:Hid (∀ W,Calls Tryz.prog 331 #[.int .i64 (h:Int)] W fun e w'=>e = .returned (.int .u64 (q:Int))∧w'=W):=fun W=>items_any h W (by omega) q hq
   have e1:IntKind.i64.wrap (m:Int)=(m:Int):=by
    have:=HA.out.hl
    have:=ol_len_le (fun h _=>h) 41 left
    have:=HA.out.hlen
    rw [IntKind.wrap_i64]; omega
   have e2:IntKind.u64.wrap ((left:Int) - (q:Int))=(l2:Int):=by
    have:=HLt.out
    rw [u64_id _ (by omega) (by omega)]; omega
   have e3:IntKind.i64.wrap ((h:Int)+1)=(h2:Int):=by rw [IntKind.wrap_i64]; omega
   have i1:(m:Int)<(m:Int)+1:=by omega
   have i2:(0:Int)≤(m:Int):=Int.natCast_nonneg _
   have i3:(m:Int)≤(cap':Int):=by have:=HA.out.cap; omega
   obtain rfl:=HA.out.rd.ptr (by omega)
   obtain ⟨x,hx⟩ : ∃ x,P'.getD m ByteArray.empty=x:=⟨_,rfl⟩
   obtain ⟨d',hd'⟩ : ∃ d',dg (clk k) (nodeT x d)=d':=⟨_,rfl⟩
   have HNd:Hid (∀ W,Below w.heap.size w W→Calls Tryz.prog 227 #[.int .i64 k,.string x,.string d] W fun e w'=>e = .returned (.string d')∧Below W.heap.size W w'):=fun W hb=>by
    have hc:=clk_le k
    have z1:x.size=clk k:=by rw [← hx]; exact HA.out.hP _ (getD_mem (by rw [HA.out.hlen]; omega))
    have z2:=HA.out.hd
    exact node_any W (HTb.out W hb) k x d (by omega) (by omega) d' hd'
   have HK:Hid (∀ W,Below w'.heap.size w' W→W.cell? ⟨p,0,none⟩=some (.int .i64 k)∧W.cell? ⟨b',m,none⟩=some (.string x)):=fun W hb=>by
    have c3:=(HA.out.rd.next (bnext HA.out.below hb) (Nat.le_refl _)).at (k:=m) (by omega)
    rw [Nat.zero_add,hx] at c3
    exact ⟨(HRg.out W (bnext HA.out.below hb)).c0,c3⟩
   have HE:Hid (x=P'.getD m ByteArray.empty∧d'=dg (clk k) (nodeT x d)∧l2=left - 2^h∧h2=h+1∧d'.size≤9223372036854775807∧A0.length≤40):=⟨hx.symm,hd'.symm,hl2.symm,hh2.symm,by rw [← hd',dg_size (clk_le k)]; have:=clk_le k; omega,by have:=HA.out.hA; omega⟩
   clear hT hl2 hh2 hql hx hd' hq hh hv
   go_upto_region 6 with (go_at_call 253; with_reducible refine (HT.out _).mono ?_; rintro e w1 ⟨rfl,rfl⟩)
   obtain ⟨y1,y2⟩:=HK.out w'.drew (Below.refl w'.heap.size w').drew
   have hd:Below w'.heap.size w' w'.drew:=(Below.refl w'.heap.size w').drew
   go_region_held3 (fun w'=>w'.cell? ⟨p,0,none⟩=some (.int .i64 k)∧w'.cell? ⟨b',m,none⟩=some (.string x)) (first | assumption | (exact HK.out _ (bnext hd hb2)) | (exact HK.out _ hd)) ((go_at_call 227; with_reducible refine (HNd.out _ (bnext HA.out.below hd)).mono ?_; rintro e w2 ⟨rfl,hb2⟩))
   have HB2:Hid (Below w'.heap.size w' w2):=bnext hd hb2
   clear hb2 hd y1 y2
   go_wp2_with (at_builtin; refine wpList_append_S _ rfl _ _ rfl w.heap.size _ (A0++[d]) rfl (own_al (own_next HA.out.own HB2.out (Nat.le_refl _)) _) (some ⟨w2.heap.size,0,none⟩) w2.heap.size 0 1 [d'] rfl (rds_one w2 d' HE.out.2.2.2.2.1) (fun h=>by cases h) ?c1 ?c2 ?_)
   case c1=>have:=HE.out.2.2.2.2.2; simp; omega
   case c2=>have:=(bnext HA.out.below HB2.out).size; simp; omega
   intro v3 w3 h3 hb3
   have HX:Hid (OwnS w3 w.heap.size v3 ((A0++[d])++[d'])∧Below w.heap.size w w3):=⟨by simpa using h3,(bal (bnext HA.out.below HB2.out) _).trans hb3⟩
   clear h3 hb3
   go_wp2
   go_quiet ((go_at_call 331; refine Calls.quiet_of_same (HI.out _)))
   go_wp2
   go_step3
   obtain ⟨x1,x2,x3,x4,x5,x6⟩:=HE.out
   obtain ⟨f',hP⟩:=HA.out.pop (clk_le k) ho (by rw [← x1]; exact x2.symm) HX.out.2 HX.out.1
   rw [← x3,← x4] at hP
   refine ⟨rfl,⟨h2,t / 2,f',l2,d',A0++[d],P'.take m,_,_,b',m,cap',_,_,_,_,_,_,_,_,_,_,_,_,_,_,_,_,_,_,_,_,_,_,_,_,_,_,_,_,_,_,_,_,_,_,_,_,_,_,_,_,_,_,_,_,_,_,_,_,rfl,hP.next (below_drewN (Below.refl _ _) _)⟩,?_⟩
   show m<m+1
   omega
  ·have hne:tr 64 left≠h:=by
    rw [Ne,tr_eq 64 h left (by have:=HA.out.hf; omega),HA.out.hleft,(pow_num h t).2]
    exact fun h=>ho h.2
   obtain ⟨T,hT⟩ : ∃ T,tr 64 left=T:=⟨_,rfl⟩
   have HT:Hid (∀ W,Calls Tryz.prog 253 #[.int .u64 (left:Int)] W fun e w'=>e = .returned (.int .i64 (T:Int))∧W=w'):=fun W=>(trail_any left W (by have:=HLt.out; omega) T hT).mono fun _ _ h=>⟨h.1,h.2.symm⟩
   have hne' : ¬ ((T:Int)=(h:Int)):=by rw [hT] at hne; omega
   obtain rfl:=HA.out.hlen
   have HC:Hid (∀ W,Calls Tryz.prog 332 #[.slice ao' P'.length cap'] W fun e w'=>e = .returned (.slice ao' P'.length P'.length)∧W=w'):=fun W=>(clip_any W ao' _ cap' HA.out.cap).mono fun _ _ h=>⟨h.1,h.2.symm⟩
   have HL:Hid (P'.length≤1000):=by show _≤_; rw [HA.out.hl]; have:=ol_len_le (fun h _=>h) 41 left; omega
   clear hne hT hv
   go_wp2_with (first
    | (go_at_call 253; with_reducible refine (HT.out _).mono ?_; rintro e w1 ⟨rfl,rfl⟩)
    | (go_at_call 332; with_reducible refine (HC.out _).mono ?_; rintro e w1 ⟨rfl,rfl⟩)
    | (at_builtin; refine wpList_append_clip _ rfl _ _ rfl ao' b' P' rfl (HA.out.rd.next (bal HA.out.below _) (Nat.le_refl _)) ⟨w'.heap.size,0,none⟩ d rfl (by simp) HL.out ?_))
   intro v2 w3 h3 hb3
   obtain ⟨g2,cap2,hv2,_⟩:=own_form h3 (by simp)
   obtain ⟨n2,hn2⟩ : ∃ n2,(P'++[d]).length=n2:=⟨_,rfl⟩
   rw [hn2] at hv2
   subst hv2
   clear hn2
   have HB3:Hid (Below w.heap.size w w3∧Below w'.heap.size w' w3∧OwnS w3 w'.heap.size (.slice (some ⟨g2,0,none⟩) n2 cap2) (P'++[d])):=⟨bnext HA.out.below ((bal (Below.refl w'.heap.size w') _).trans (hb3.mono (Nat.le_succ _))),(bal (Below.refl w'.heap.size w') _).trans (hb3.mono (Nat.le_succ _)),own_mono h3 (Nat.le_succ _)⟩
   clear h3 hb3
   have R3:=HRg.out w3 HB3.out.1
   have y1:=R3.c1
   have y2:=R3.c2
   have z1:=R3.fz 1
   have z2:=R3.fz 2
   have HR3:=hide R3
   clear R3
   go_wp2
   try simp only [Exit.jump]
   go_ret
   have hlt:=HP0.out
   have hsz:=HA.out.below.size
   refine ⟨vm,.slice (some ⟨g2,0,none⟩) n2 cap2,rfl,⟨?_,?_,?_,?_,?_⟩⟩
   ·obtain ⟨q1,q2,q3,q4,q5,q6⟩:=HN.out
    have hQ:P'++[d]=Q:=by have:=HA.out.hQ; rw [carry_even ho] at this; exact this
    refine ⟨?_,own_mono (own_setp (own_setp (by rw [← hQ]; exact HB3.out.2.2) (by omega)) (by omega)) (Nat.zero_le _),q5,q6,q2,q3,q4⟩
    have e1:=heap_setCell_same w3 p 2 _ 234 (.slice (some ⟨g2,0,none⟩) n2 cap2) HR3.out.blk
    have e2:=heap_setCell_same _ p 1 _ 234 (.int .u64 (gr:Int)) e1
    exact e2
   ·have hM:A0++[d]=M:=by have:=HA.out.hM; rw [carry_even ho] at this; exact this
    rw [← hM]
    exact own_setp (own_setp (own_next HA.out.own HB3.out.2.1 (Nat.le_refl _)) hlt) hlt
   ·exact ((Ch.of HB3.out.1 hlt).set 2 _).set 1 _
   ·right
    intro g hg
    have:=(World.ownsRow.lt HB3.out.2.2 g hg).1
    omega
   ·intro g hg1 hg2
    have a1:=(World.ownsRow.lt HB3.out.2.2 g hg2).1
    have a2:=(World.ownsRow.lt HA.out.own g hg1).2
    omega
theorem size_any (w:World) (p:Nat) (v:Value) (k:Int) (n:Nat) (P:List ByteArray) (hr:Rg w p v k n P) :
  Calls Tryz.prog 159 #[.pointer (some ⟨p,0,none⟩)] w fun e w'=>e = .returned (.int .u64 (n:Int))∧Below w.heap.size w w':=by
 have c1:=hr.c1
 clear hr
 go_enter Tryz.func159,Tryz.ntmps159
 go_wp2
 go_ret
 exact ⟨rfl,Below.refl _ _⟩
theorem rpeaks_own (w:World) (p:Nat) (v:Value) (k:Int) (n:Nat) (P:List ByteArray) (hr:Rg w p v k n P) :
  Calls Tryz.prog 160 #[.pointer (some ⟨p,0,none⟩)] w fun e w' => ∃ u,e = .returned u∧OwnS w' w.heap.size u P∧Below w.heap.size w w':=by
 obtain ⟨ao,b,cap,hv,hrd,hcap,hno⟩:=hr.rd
 have c2:=hr.c2
 rw [hv] at c2
 have HC:Hid (Calls Tryz.prog 158 #[.slice ao P.length cap] w fun e w' => ∃ v,e = .returned v∧OwnS w' w.heap.size v P∧Below w.heap.size w w'):=clone_any w ao b 0 cap P hrd hno (by have:=hr.short; omega)
 clear hr hv hrd hcap hno
 go_enter Tryz.func160,Tryz.ntmps160
 go_wp2_with (go_at_call 158; with_reducible refine HC.out.mono ?_; rintro e w1 ⟨u,rfl,ho,hb⟩)
 go_ret
 exact ⟨u,rfl,ho,hb⟩
theorem own_slice {w:World} {B:Nat} {v:Value} {l:List ByteArray} (h:OwnS w B v l) : ∃ ao cap,v = .slice ao l.length cap:=by
 obtain ⟨_,h2⟩:=h
 rcases h2 with ⟨h2,h3⟩ | ⟨g,cap,cur,hv,_⟩
 ·exact ⟨none,0,by rw [h2,h3]⟩
 ·exact ⟨_,cap,hv⟩
def fe (k:Int) (n:Nat) (L:List ByteArray):Nat :=
 if k<1∨32<k then 70 else if 1099511627776<n then 30 else if L.length≠ones 64 n ∨ ¬ (∀ s∈L,(s.size:Int)=k) then 90 else 0
theorem kchk_ok {k:Int} (h1:1≤k) (h2:k≤32):chk k=0:=by rw [chk,if_neg (by omega)]
theorem kchk_no {k:Int} (h:k<1∨32<k):chk k=70:=by rw [chk,if_pos h]
def Made (w w':World) (k:Int) (n:Nat) (L:List ByteArray) (e0:Nat) (e:Ending):Prop :=
 Below w.heap.size w w'∧((e0≠0∧e = .returned (.tuple #[.pointer none,.int .i64 (e0:Int)]))∨(e0=0 ∧ ∃ p v,e = .returned (.tuple #[.pointer (some ⟨p,0,none⟩),.int .i64 0])∧Rg w' p v k n L∧w.heap.size≤p ∧ ∀ g,v.ownBlock=some g→w.heap.size≤g))
set_option maxRecDepth 100000 in
set_option maxHeartbeats 1000000 in
theorem from_any (w:World) (k:Int) (n:Nat) (hn64:n<18446744073709551616) (ao:Option Addr) (b off cap:Nat) (L:List ByteArray) (hr:RdS w ao b off L.length L) (hno:ao=none→cap=0) (hmx:L.length≤8796093022208) (e0:Nat) (he:fe k n L=e0) :
  Calls Tryz.prog 94 #[.int .i64 k,.int .u64 (n:Int),.slice ao L.length cap] w fun e w'=>Made w w' k n L e0 e:=by
 have hb:=Below.refl w.heap.size w
 have HC:Hid (∀ W,Calls Tryz.prog 91 #[.int .i64 k] W fun e w'=>e = .returned (.int .i64 (chk k))∧W=w'):=fun W=>(check_any W k).mono fun _ _ h=>⟨h.1,h.2.symm⟩
 by_cases hk:k<1∨32<k
 ·obtain rfl:e0=70:=by rw [← he,fe,if_pos hk]
  rw [kchk_no hk] at HC
  clear he hk hr hno hmx hn64
  go_enter Tryz.func94,Tryz.ntmps94
  go_wp2_with (go_at_call 91; with_reducible refine (HC.out _).mono ?_; rintro e w1 ⟨rfl,rfl⟩)
  go_ret2
  exact ⟨hb,.inl ⟨by decide,rfl⟩⟩
 ·have k1:1≤k:=by omega
  have k2:k≤32:=by omega
  rw [kchk_ok k1 k2] at HC
  by_cases hn:1099511627776<n
  ·obtain rfl:e0=30:=by rw [← he,fe,if_neg hk,if_pos hn]
   have hn':decide ((1099511627776:Int)<(n:Int))=true:=by simp; omega
   clear he hk hr hno hmx hn64 hn
   go_enter Tryz.func94,Tryz.ntmps94
   go_wp2_with (go_at_call 91; with_reducible refine (HC.out _).mono ?_; rintro e w1 ⟨rfl,rfl⟩)
   go_ret2
   exact ⟨hb,.inl ⟨by decide,rfl⟩⟩
  ·have hn':decide ((1099511627776:Int)<(n:Int))=false:=by simp; omega
   obtain ⟨o,ho⟩ : ∃ o,ones 64 n=o:=⟨_,rfl⟩
   have HO:Hid (∀ W,Calls Tryz.prog 138 #[.int .u64 (n:Int)] W fun e w'=>e = .returned (.int .i64 (o:Int))∧W=w'):=fun W=>by
    have:=Pl.ones_any n W (by omega)
    rw [ho] at this
    exact this.mono fun _ _ h=>⟨h.1,h.2.symm⟩
   by_cases hl:L.length=o
   ·subst hl
    have HE:Hid ((¬ (∀ s∈L,(s.size:Int)=k)→e0=90)∧((∀ s∈L,(s.size:Int)=k)→e0=0)):=by
     refine ⟨fun h => ?_,fun h => ?_⟩
     ·rw [← he,fe,if_neg hk,if_neg hn,if_pos (.inr h)]
     ·rw [← he,fe,if_neg hk,if_neg hn,if_neg]
      rintro (h1 | h1)
      ·exact h1 ho.symm
      ·exact h1 h
    have HG:Hid (n≤1099511627776∧L.length=(hts n).length∧L.length≤1000):=by
     have h1:=hts_ones (n:=n) (by omega)
     have h2:=hts_le n
     exact ⟨by omega,by omega,by omega⟩
    have HCl:Hid (Calls Tryz.prog 158 #[.slice ao L.length cap] w fun e w' => ∃ v,e = .returned v∧OwnS w' w.heap.size v L∧Below w.heap.size w w'):=clone_any w ao b off cap L hr hno hmx
    have HR:Hid (RdS w ao b off L.length L):=hr
    have HB:=hide hb
    have HK:=hide (And.intro k1 k2)
    clear he hk hno hmx hn64 hn ho hr hb k1 k2
    go_enter Tryz.func94,Tryz.ntmps94
    go_wp2_with (first
     | (go_at_call 91; with_reducible refine (HC.out _).mono ?_; rintro e w1 ⟨rfl,rfl⟩)
     | (go_at_call 138; with_reducible refine (HO.out _).mono ?_; rintro e w1 ⟨rfl,rfl⟩))
    go_loopg [25] L.length (fun g i wr => ∃ j:Nat,j≤L.length∧g=L.length - j∧i = .int .i64 (j:Int)∧Hid (∀ s∈L.take j,(s.size:Int)=k)∧w=wr)
    case atStart =>
     go_light
     exact ⟨0,Nat.zero_le _,rfl,rfl,(fun s hs=>by cases hs),rfl⟩
    case round =>
     obtain ⟨j,hj,rfl,rfl,HT,rfl⟩:=hrel
     by_cases hlt:j<L.length
     ·have hz:(j:Int)<(L.length:Int):=by omega
      have hz9:(j:Int)<1000:=by have:=HG.out.2.2; omega
      have hz0:(0:Int)≤(j:Int):=Int.natCast_nonneg _
      obtain rfl:=HR.out.ptr (by omega)
      have cj:=HR.out.at hlt
      obtain ⟨x,hx⟩ : ∃ x,L.getD j ByteArray.empty=x:=⟨_,rfl⟩
      have hxm:=getD_mem hlt
      have hx2:L.take (j+1)=L.take j++[x]:=by
       rw [List.take_add_one,← hx,List.getD_eq_getElem?_getD,List.getElem?_eq_getElem hlt]; rfl
      rw [hx] at cj hxm
      by_cases hs:(x.size:Int)=k
      ·have HT2:Hid (∀ s∈L.take (j+1),(s.size:Int)=k):=fun s hs2=>by
        rw [hx2] at hs2
        rcases List.mem_append.1 hs2 with h | h
        ·exact HT.out s h
        ·simp at h; rw [h]; exact hs
       subst hs
       clear hx hxm hx2 HT
       go_wp2
       go_roundg (L.length - (j+1))
       case rel =>
        go_light
        exact ⟨j+1,by omega,rfl,by go_num,HT2,rfl⟩
       case measure=>go_light; omega
      ·have hE:e0=90:=HE.out.1 fun h=>hs (h x hxm)
       have HE2:=hide hE
       clear hE hx hxm hx2 HT
       go_wp2
       go_ret2
       refine ⟨HB.out,.inl ?_⟩
       rw [HE2.out]
       exact ⟨by decide,rfl⟩
     ·obtain rfl:j=L.length:=by omega
      have hz : ¬ ((L.length:Int)<(L.length:Int)):=by omega
      have HT2:Hid (∀ s∈L,(s.size:Int)=k):=by have:=HT.out; rwa [List.take_length] at this
      clear HT
      go_wp2_with (go_at_call 158; with_reducible refine HCl.out.mono ?_; rintro e w1 ⟨v,rfl,hv,hbv⟩; obtain ⟨ao2,cap2,rfl⟩:=own_slice hv)
      go_ret2
      have hE:e0=0:=HE.out.2 HT2.out
      have hsz:=hbv.size
      refine ⟨bal hbv _,.inr ⟨hE,_,_,rfl,⟨heap_alloc_new w1 _,own_mono (own_al hv _) (Nat.zero_le _),HK.out.1,HK.out.2,HG.out.1,HG.out.2.1,fun s hs => ?_⟩,hsz,fun g hg=>(World.ownsRow.lt hv g hg).1⟩⟩
      have h1:=HT2.out s hs
      have h2:=clk_of HK.out.1 HK.out.2
      omega
   ·obtain rfl:e0=90:=by rw [← he,fe,if_neg hk,if_neg hn,if_pos (.inl (by rw [ho]; exact hl))]
    have hl' : ¬ ((L.length:Int)=(o:Int)):=by omega
    clear he hk hr hno hmx hn64 hn hl ho
    go_enter Tryz.func94,Tryz.ntmps94
    go_wp2_with (first
     | (go_at_call 91; with_reducible refine (HC.out _).mono ?_; rintro e w1 ⟨rfl,rfl⟩)
     | (go_at_call 138; with_reducible refine (HO.out _).mono ?_; rintro e w1 ⟨rfl,rfl⟩))
    go_ret2
    exact ⟨hb,.inl ⟨by decide,rfl⟩⟩
theorem Made.no {w w':World} {k:Int} {n:Nat} {L:List ByteArray} {e0:Nat} {e:Ending} (h:Made w w' k n L e0 e) (h0:e0≠0):e = .returned (.tuple #[.pointer none,.int .i64 (e0:Int)])∧Below w.heap.size w w':=by
 obtain ⟨hb,⟨_,h2⟩ | ⟨h1,_⟩⟩:=h
 ·exact ⟨h2,hb⟩
 ·exact absurd h1 h0
theorem Made.ok {w w':World} {k:Int} {n:Nat} {L:List ByteArray} {e:Ending} (h:Made w w' k n L 0 e) : ∃ p v,e = .returned (.tuple #[.pointer (some ⟨p,0,none⟩),.int .i64 0])∧Rg w' p v k n L∧w.heap.size≤p∧(∀ g,v.ownBlock=some g→w.heap.size≤g)∧Below w.heap.size w w':=by
 obtain ⟨hb,⟨h1,_⟩ | ⟨_,p,v,h2,h3,h4,h5⟩⟩:=h
 ·exact absurd rfl h1
 ·exact ⟨p,v,h2,h3,h4,h5,hb⟩
theorem knew_any (w:World) (k:Int) (e0:Nat) (he:fe k 0 []=e0):Calls Tryz.prog 44 #[.int .i64 k] w fun e w'=>Made w w' k 0 [] e0 e:=by
 have HF:Hid (Calls Tryz.prog 94 #[.int .i64 k,.int .u64 0,.slice none 0 0] w fun e w'=>Made w w' k 0 [] e0 e) :=
  from_any w k 0 (by decide) none 0 0 0 [] ⟨rfl,fun h=>absurd h (Nat.lt_irrefl 0),(fun j v h=>by cases h),fun s hs=>by cases hs⟩ (fun _=>rfl) (Nat.zero_le _) e0 he
 clear he
 by_cases h0:e0=0
 ·subst h0
  go_enter Tryz.func44,Tryz.ntmps44
  go_wp2_with (go_at_call 94; with_reducible refine HF.out.mono ?_; intro e w1 hM; obtain ⟨p,v,rfl,h2,h3,h4,hb⟩:=hM.ok; clear hM)
  go_ret2
  exact ⟨hb,.inr ⟨rfl,p,v,rfl,h2,h3,h4⟩⟩
 ·have H0:=hide h0
  clear h0
  go_enter Tryz.func44,Tryz.ntmps44
  go_wp2_with (go_at_call 94; with_reducible refine HF.out.mono ?_; intro e w1 hM; obtain ⟨rfl,hb⟩:=hM.no H0.out; clear hM)
  go_ret2
  exact ⟨hb,.inl ⟨H0.out,rfl⟩⟩
end Go.Proofs.YtoblgjledefdbaaGreatDoor.Kp
