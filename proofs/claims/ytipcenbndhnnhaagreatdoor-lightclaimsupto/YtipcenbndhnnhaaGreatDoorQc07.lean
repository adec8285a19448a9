/- Own work. -/
import Derived.KernelRfl
import Derived.Deep.Onto
import Derived.ArgAppend
import Derived.Laws.AppendOwnNone
import Derived.Laws.IdiomStrings
import Derived.Deep.RegionWith
import Derived.Handy
import Derived.Test.YtipcenbndhnnhaaGreatDoorProg
import Derived.Below
import Derived.WalkKit
import Derived.WalkSpells
import Derived.Deep.RegionHeld3
import Derived.BigQuiet
import Derived.Test.YtipcenbndhnnhaaGreatDoorQc06
namespace Go.Proofs.YtipcenbndhnnhaaGreatDoor
open Go.RowKit
def forceN {α:Type} (n:Nat) (k:Nat→α):α :=
 match n with
 | 0=>k 0
 | m+1=>k (m+1)
theorem forceN_eq {α:Type} (n:Nat) (k:Nat→α):forceN n k=k n:=by cases n <;> rfl
def forceI {α:Type} (x:Int) (k:Int→α):α :=
 match x with
 | .ofNat n=>forceN n fun n=>k (.ofNat n)
 | .negSucc n=>forceN n fun n=>k (.negSucc n)
theorem forceI_eq {α:Type} (x:Int) (k:Int→α):forceI x k=k x:=by
 cases x with
 | ofNat n=>exact forceN_eq n fun n=>k (.ofNat n)
 | negSucc n=>exact forceN_eq n fun n=>k (.negSucc n)
def forceL {α:Type} (l:List Int) (k:List Int→α):α :=
 match l with
 | []=>k []
 | x::r=>forceI x fun x=>forceL r fun r=>k (x::r)
theorem forceL_eq {α:Type} (l:List Int) (k:List Int→α):forceL l k=k l:=by
 induction l generalizing k with
 | nil=>rfl
 | cons x r ih=>rw [forceL,forceI_eq,ih]
def schGo:Nat→Nat→List Int→List Int
 | 0,_,l=>l
 | f+1,k,l=>forceL (l++[nextI (l.getD k 0) (l.getD (k+1) 0) (l.getD (k+9) 0) (l.getD (k+14) 0)]) fun l=>schGo f (k+1) l
theorem schGo_eq (blk:List Int) (f k:Nat):schGo f k (schN blk k)=schN blk (k+f):=by
 induction f generalizing k with
 | zero=>rfl
 | succ f ih =>
  rw [schGo,forceL_eq]
  have:=ih (k+1)
  rw [schN] at this
  rw [this,show k+1+f=k+(f+1) by omega]
def rndGo (rs ws:List Int):Nat→Nat→S8→S8
 | 0,_,v=>v
 | f+1,k,⟨a,b,c,d,e,g,h,i⟩ =>
  forceI (oneI e g h i (rs.getD k 0) (ws.getD k 0)) fun one=>forceI (IntKind.u32.wrap (one+twoI a b c)) fun x=>forceI (IntKind.u32.wrap (d+one)) fun y=>rndGo rs ws f (k+1) ⟨x,a,b,c,y,e,g,h⟩
theorem rndGo_eq (rs ws:List Int) (v:S8) (f k:Nat):rndGo rs ws f k (rnds v rs ws k)=rnds v rs ws (k+f):=by
 induction f generalizing k with
 | zero=>cases rnds v rs ws k; rfl
 | succ f ih =>
  have h:=ih (k+1)
  rw [rnds] at h
  rw [show k+(f+1)=k+1+f by omega,← h]
  cases rnds v rs ws k
  rw [rndGo,forceI_eq,forceI_eq,forceI_eq]
  rfl
def foldS (rs st blk:List Int):List Int :=
 forceL blk fun blk=>forceL (sch0 blk 16) fun l=>forceL (schGo 48 0 l) fun ws=>forceL (sumI (s8of st) (rndGo rs ws 64 0 (s8of st))) fun r=>r
theorem foldS_eq (rs st blk:List Int):foldS rs st blk=foldI rs st blk:=by
 rw [foldS,forceL_eq,forceL_eq,forceL_eq,forceL_eq,foldI]
 have h1:=schGo_eq blk 48 0
 rw [Nat.zero_add] at h1
 have h2:=rndGo_eq rs (schN blk 48) (s8of st) 64 0
 rw [Nat.zero_add] at h2
 rw [← h2,← h1]
 rfl
def closeS (rs st blk:List Int) (n:Nat):List Int :=
 if 55<n % 64 then foldS rs (foldS rs st (endL blk (n % 64))) (lenAt (List.replicate 64 0) (IntKind.u64.wrap ((n:Int) * 8)) 8)
 else foldS rs st (lenAt (endL blk (n % 64)) (IntKind.u64.wrap ((n:Int) * 8)) 8)
theorem closeS_eq (rs st blk:List Int) (n:Nat):closeS rs st blk n=closeI rs st blk n:=by
 unfold closeS closeI
 simp only [foldS_eq]
def shaE (rs t:List Int):List Int:=forceL (closeS rs IV (pad t) t.length) fun h=>outB h 8
theorem shaE_eq (rs t:List Int) (h:t.length<64):shaE rs t=shaT rs t:=by
 have e:t.length / 64=0:=by omega
 rw [shaE,forceL_eq,closeS_eq,shaT,e]
 rfl
def RS:List Int:=[1116352408,1899447441,3049323471,3921009573,961987163,1508970993,2453635748,2870763221,3624381080,310598401,607225278,1426881987,1925078388,2162078206,2614888103,3248222580,3835390401,4022224774,264347078,604807628,770255983,1249150122,1555081692,1996064986,2554220882,2821834349,2952996808,3210313671,3336571891,3584528711,113926993,338241895,666307205,773529912,1294757372,1396182291,1695183700,1986661051,2177026350,2456956037,2730485921,2820302411,3259730800,3345764771,3516065817,3600352804,4094571909,275423344,430227734,506948616,659060556,883997877,958139571,1322822218,1537002063,1747873779,1955562222,2024104815,2227730452,2361852424,2428436474,2756734187,3204031479,3329325298]
theorem RS_len:RS.length=64:=rfl
end Go.Proofs.YtipcenbndhnnhaaGreatDoor
namespace Go.Proofs.YtipcenbndhnnhaaGreatDoor
open Go.RowKit
attribute [local go_sem ↓] Go.wp_at_zero Go.wp_at_succ
theorem bnext {w W w2:World} (h:Below w.heap.size w W) (h2:Below W.heap.size W w2):Below w.heap.size w w2:=h.trans (h2.mono h.size)
theorem bal {w W:World} (h:Below w.heap.size w W) (o:Obj):Below w.heap.size w (W.alloc o):=h.alloc h.size o
theorem below_drewN {B:Nat} {a w:World} (h:Below B a w) (n:Nat):Below B a (w.drewN n):=⟨h.os,h.tape,h.output,h.size,h.block⟩
theorem cW_ne {l:List Int} (h:0<l.length):cW l≠[]:=by
 intro e; have:=congrArg List.length e; rw [cW_len,List.length_nil] at this; omega
structure Tb (w:World):Prop where
 rs:w.rangeAt 3 0 (cW RS)
theorem Tb.next {w W:World} (h:Tb w) (hb:Below w.heap.size w W):Tb W :=
 ⟨range_below hb (range_lt h.rs (cW_ne (by rw [RS_len]; decide))) h.rs⟩
def clk (k:Int):Nat:=if k<1 then 1 else if 32<k then 32 else k.toNat
theorem clk_ge (k:Int):1≤clk k:=by
 unfold clk
 split
 ·omega
 ·split <;> omega
theorem clk_le (k:Int):clk k≤32:=by
 unfold clk
 split
 ·omega
 ·split <;> omega
theorem bounded_any (w:World) (k:Int) (x:Int) (hx:(clk k:Int)=x) :
  Calls Tryz.prog 144 #[.int .i64 k] w fun e w'=>e = .returned (.int .i64 x)∧w'=w:=by
 subst hx
 unfold clk
 go_enter Tryz.func144,Tryz.ntmps144
 by_cases h1:k<1
 ·have e1 : ¬ (1≤k):=by omega
  rw [if_pos h1]
  clear h1
  go_wp2
  go_ret
  simp
 ·by_cases h2:32<k
  ·have e1:1≤k:=by omega
   have e2 : ¬ (k≤32):=by omega
   rw [if_neg h1,if_pos h2]
   clear h1 h2
   go_wp2
   go_ret
   simp
  ·have e1:1≤k:=by omega
   have e2:k≤32:=by omega
   have e3:(k.toNat:Int)=k:=by omega
   rw [if_neg h1,if_neg h2,e3]
   clear h1 h2
   go_wp2
   go_ret
   simp
theorem one_size (x:Int):(strB [x]).size=1:=rfl
theorem conv_one (w:World) (x:Int):(convert 115 9 (.slice (some ⟨w.heap.size,0,none⟩) 1 1)).run Tryz.prog (w.alloc (.cells #[.int .u8 x] 5)) = .ok (.string (strB [x])) (w.alloc (.cells #[.int .u8 x] 5)) :=
 conv_str _ _ [x] 1 rfl (range_new w (cB [x]) 5)
theorem strB_size (l:List Int):(strB l).size=l.length:=by
 have : ∀ (l:List Int) (r:ByteArray),(l.foldl (fun r n=>r.push (UInt8.ofNat n.toNat)) r).size=r.size+l.length:=by
  intro l
  induction l with
  | nil=>intro r; rfl
  | cons x t ih=>intro r; rw [List.foldl_cons,ih,ByteArray.size_push,List.length_cons]; omega
 rw [strB,this]; simp
theorem shaS_size (rs t:List Int):(shaS rs t).size=32:=by rw [shaS,strB_size,shaT,outB_len]
def leafT (s:ByteArray):ByteArray:=strB [0]++s
def nodeT (a b:ByteArray):ByteArray:=(strB [1]++a)++b
def bagT (a b:ByteArray):ByteArray:=(strB [2]++a)++b
theorem leafT_size (s:ByteArray):(leafT s).size=1+s.size:=by rw [leafT,ByteArray.size_append,one_size]
theorem nodeT_size (a b:ByteArray):(nodeT a b).size=1+a.size+b.size:=by rw [nodeT,ByteArray.size_append,ByteArray.size_append,one_size]
theorem bagT_size (a b:ByteArray):(bagT a b).size=1+a.size+b.size:=by rw [bagT,ByteArray.size_append,ByteArray.size_append,one_size]
def dg (c:Nat) (t:ByteArray):ByteArray:=(shaS RS (tB t)).extract 0 c
theorem dg_size {c:Nat} (hc:c≤32) (t:ByteArray):(dg c t).size=c:=by
 rw [dg,ByteArray.size_extract,shaS_size]; omega
theorem sha_one (w:World) (ht:Tb w) (t:ByteArray) (hs:t.size<4611686018427387904) :
  Calls Tryz.prog 143 #[.slice (some ⟨w.heap.size,0,none⟩) 1 1] (w.alloc (.cells #[.string t] 9)) fun e w'=>e = .returned (.string (shaS RS (tB t)))∧Below w.heap.size w w':=by
 have e:flat [t]=tB t:=by simp [flat]
 refine (of_any _ (some ⟨w.heap.size,0,none⟩) w.heap.size 0 1 1 [t] rfl (fun _=>rfl) (range_new w [.string t] 9) (by decide) RS RS_len (World.rangeAt_alloc ht.rs _) (by rw [e,tB_len]; exact hs)).mono fun e' w' ⟨he,hb'⟩=>⟨?_,?_⟩
 ·rw [he,e]
 ·exact ((Below.refl _ _).alloc (Nat.le_refl _) _).trans (hb'.mono (by simp))
set_option maxRecDepth 100000 in
theorem hof_any (w:World) (ht:Tb w) (k:Int) (t:ByteArray) (hs:t.size<4611686018427387904) (r:ByteArray) (hr:dg (clk k) t=r) :
  Calls Tryz.prog 94 #[.int .i64 k,.string t] w fun e w'=>e = .returned (.string r)∧Below w.heap.size w w':=by
 subst hr
 have HS:=sha_one w ht t hs
 unfold dg
 have hz:=shaS_size RS (tB t)
 generalize shaS RS (tB t)=z at *
 have c1:=clk_ge k
 have c2:=clk_le k
 have HC:=fun W=>bounded_any W k (clk k) rfl
 generalize clk k=c at *
 have h1:(0:Int)≤(c:Int):=by omega
 have h2:(c:Int)≤32:=by omega
 clear ht hs c1
 go_enter Tryz.func94,Tryz.ntmps94
 go_wp2_with (first
  | (go_at_call 143; with_reducible refine HS.mono ?_; rintro e w1 ⟨rfl,hb1⟩)
  | (go_at_call 144; with_reducible refine (HC _).mono ?_; rintro e w2 ⟨rfl,rfl⟩))
 go_ret
 exact ⟨rfl,hb1⟩
set_option maxRecDepth 100000 in
theorem leaft_any (w:World) (s:ByteArray) (hs:s.size<2305843009213693952) :
  Calls Tryz.prog 95 #[.string s] w fun e w'=>e = .returned (.string (leafT s))∧Below w.heap.size w w':=by
 have cv:=conv_one w 0
 unfold leafT
 have hz:=one_size 0
 generalize strB [0]=z at *
 have hns : ¬ (9223372036854775807<1+s.size):=by omega
 go_enter Tryz.func95,Tryz.ntmps95
 go_wp2
 go_ret
 exact ⟨rfl,bal (Below.refl _ _) _⟩
set_option maxRecDepth 100000 in
theorem nodet_any (w:World) (a b:ByteArray) (hs:a.size<2305843009213693952) (hs2:b.size<2305843009213693952) :
  Calls Tryz.prog 97 #[.string a,.string b] w fun e w'=>e = .returned (.string (nodeT a b))∧Below w.heap.size w w':=by
 have cv:=conv_one w 1
 unfold nodeT
 have hz:=one_size 1
 generalize strB [1]=z at *
 have hns : ¬ (9223372036854775807<1+a.size):=by omega
 have hns2 : ¬ (9223372036854775807<1+a.size+b.size):=by omega
 go_enter Tryz.func97,Tryz.ntmps97
 go_wp2
 go_ret
 exact ⟨rfl,bal (Below.refl _ _) _⟩
set_option maxRecDepth 100000 in
theorem bagt_any (w:World) (a b:ByteArray) (hs:a.size<2305843009213693952) (hs2:b.size<2305843009213693952) (r:ByteArray) (hr:bagT a b=r) :
  Calls Tryz.prog 161 #[.string a,.string b] w fun e w'=>e = .returned (.string r)∧Below w.heap.size w w':=by
 subst hr
 have cv:=conv_one w 2
 unfold bagT
 have hz:=one_size 2
 generalize strB [2]=z at *
 have hns : ¬ (9223372036854775807<1+a.size):=by omega
 have hns2 : ¬ (9223372036854775807<1+a.size+b.size):=by omega
 go_enter Tryz.func161,Tryz.ntmps161
 go_wp2
 go_ret
 exact ⟨rfl,bal (Below.refl _ _) _⟩
def chk (k:Int):Int:=if k<1∨32<k then 70 else 0
theorem check_any (w:World) (k:Int):Calls Tryz.prog 48 #[.int .i64 k] w fun e w'=>e = .returned (.int .i64 (chk k))∧w'=w:=by
 unfold chk
 go_enter Tryz.func48,Tryz.ntmps48
 by_cases h1:k<1
 ·rw [if_pos (.inl h1)]
  go_wp2
  go_ret
  simp
 ·by_cases h2:32<k
  ·rw [if_pos (.inr h2)]
   go_wp2
   go_ret
   simp
  ·rw [if_neg (by omega)]
   go_wp2
   go_ret
   simp
theorem hide {p:Prop} (h:p):Hid p:=h
theorem Tryz.infoI:(Tryz.prog.info? 5).map (fun i=>(i.zero,i.size,i.bytes))=some (some (.int .u8 0),1,1):=by kernel_rfl
def OwnI (w:World) (B:Nat) (v:Value) (l:List Int):Prop:=w.ownsRow B 5 1 v l.length (cB l)
theorem owni_conv {w:World} {B:Nat} {v:Value} {l:List Int} (h:OwnI w B v l) (h0:0<l.length):(convert 115 9 v).run Tryz.prog w = .ok (.string (strB l)) w:=by
 have hc:=fun g=>h.cells (g:=g)
 obtain ⟨h1,h2⟩:=h
 rcases h2 with ⟨rfl,h2⟩ | ⟨g,cap,cur,rfl,hg,hh,r⟩
 ·omega
 ·rw [run_convert_bytes_string w 115 9 5 _ _ _ Tryz.underlying115 Tryz.underlying5 Tryz.underlying9]
  refine run_bytesToString w ⟨g,0,none⟩ l.length cap l ?_
  have:=run_loadCells_list (P:=Tryz.prog) w ⟨g,0,none⟩ (cB l) (fun j v hv=>hc g rfl j v hv)
  rwa [cB_len] at this
theorem owni_own {w:World} {B:Nat} {v:Value} {l:List Int} (h:OwnI w B v l) : ∀ k,v.ownBlock=some k→B≤k:=by
 obtain ⟨_,h2⟩:=h
 rcases h2 with ⟨rfl,_⟩ | ⟨g,cp,cur,rfl,hg,_⟩
 ·intro k hk; cases hk
 ·intro k hk; cases hk; exact hg
theorem owni_new (w:World) (x:Int):OwnI (w.alloc (.cells #[.int .u8 x] 5)) w.heap.size (.slice (some ⟨w.heap.size,0,none⟩) 1 1) [x] :=
 ⟨rfl,.inr ⟨w.heap.size,1,#[.int .u8 x],rfl,Nat.le_refl _,heap_alloc_new w _,Nat.le_refl _,by unfold maxLen; omega,rfl,rfl⟩⟩
theorem wpList_append_I (w:World) {ops:Array Oper} {rest:List Oper} {o:Oper} {a:Act} {Q:Exit→Act→World→Prop}
  (hg:o.guard=none) (s x:Operand) (hop:o.op=Op.call { callee:=Callee.builtin Builtin.append,args:=#[s,x],argTypes:=#[115,115] })
  (B:Nat) (v:Value) (L:List Int) (hs:a.eval s=v) (hown:OwnI w B v L) (y:Int) (hx:a.eval x = .slice (some ⟨w.heap.size,0,none⟩) 1 1)
  (hlen:L.length≤1000) (hB:B≤w.heap.size)
  (hK : ∀ v' w',OwnI w' B v' (L++[y])→Below B w w'→wpList Tryz.prog ops Q rest (a.put o.dst v') w'):wpList Tryz.prog ops Q (o::rest) a (w.alloc (.cells #[.int .u8 y] 5)):=by
 obtain ⟨i0,hi,hz0,hz1,hz2⟩:=info_parts Tryz.infoI
 refine wpList_append_own _ hg s x _ hop B 5 i0 (.int .u8 0) 1 1 Tryz.underlying115 hi hz0 hz1 hz2 rfl (by decide) _ _ _ hs (World.ownsRow.alloc hown _) ⟨w.heap.size,0,none⟩ 1 1 (cB [y]) hx (by simp [cB]) ?_ (by intro u hu; simp [cB] at hu; subst hu; rfl) (by unfold maxLen; omega) (by omega) (by simp; omega) ?_
 ·intro j u hu
  have hj:j=0:=by have:=(List.getElem?_eq_some_iff.1 hu).1; simp [cB] at this; exact this
  subst hj
  have hu':Value.int .u8 y=u:=Option.some.inj hu
  subst hu'
  rw [Addr.add_mid,World.cell?_alloc_new]
  rfl
 ·intro v' w' h1 h2 _
  refine hK v' w' ?_ (((Below.refl _ _).alloc hB _).trans ((Below.refl _ _).grown h2 (by simp; omega) (owni_own hown)))
  rw [OwnI,List.length_append,cB,List.map_append]; exact h1
def nbL (n:Nat) (j:Nat):List Int:=(List.range j).map fun i=>((n / 256^(7 - i) % 256:Nat):Int)
theorem nbL_len (n j:Nat):(nbL n j).length=j:=by simp [nbL]
theorem nbL_succ (n j:Nat):nbL n (j+1)=nbL n j++[((n / 256^(7 - j) % 256:Nat):Int)]:=by
 simp [nbL,List.range_succ]
theorem shr_byte (n k:Nat):(n:Int) / 2^(8 * (7 - k)) % 256=((n / 256^(7 - k) % 256:Nat):Int):=by
 rw [Int.natCast_emod,Int.natCast_ediv,Int.natCast_pow,Int.pow_mul]
 rfl
def rootH (n:Nat):List Int:=3::nbL n 8
def rootT (n:Nat) (d:ByteArray):ByteArray:=strB (rootH n)++d
theorem rootH_size (n:Nat):(strB (rootH n)).size=9:=by rw [strB_size,rootH,List.length_cons,nbL_len]
theorem rootT_size (n:Nat) (d:ByteArray):(rootT n d).size=9+d.size:=by rw [rootT,ByteArray.size_append,rootH_size]
set_option maxRecDepth 100000 in
theorem roott_any (w:World) (n:Nat) (d:ByteArray) (hs:d.size<2305843009213693952) (r:ByteArray) (hr:rootT n d=r) :
  Calls Tryz.prog 124 #[.int .u64 (n:Int),.string d] w fun e w'=>e = .returned (.string r)∧Below w.heap.size w w':=by
 subst hr
 have hns : ¬ (9223372036854775807<9+d.size):=by omega
 have HS:=rootH_size n
 unfold rootT
 obtain ⟨z,HE⟩ : ∃ z,Hid (strB (rootH n)=z):=⟨_,rfl⟩
 rw [HE.out] at HS ⊢
 go_enter Tryz.func124,Tryz.ntmps124
 go_wp2
 go_loopg [5,8] 8 (fun g v i wr => ∃ k:Nat,k≤8∧g=8 - k∧i = .int .i64 (k:Int)∧OwnI wr w.heap.size v (3::nbL n k)∧Below w.heap.size w wr)
 case atStart =>
  go_light
  exact ⟨0,Nat.zero_le _,rfl,rfl,owni_new w 3,bal (Below.refl _ _) _⟩
 case round =>
  obtain ⟨k,hk,rfl,rfl,hown,hb⟩:=hrel
  by_cases hlt:k<8
  ·have hz:(k:Int)<8:=by omega
   have HZ:Hid (w.heap.size≤wr.heap.size):=hb.size
   have HL:Hid ((3::nbL n k).length≤1000):=by show _≤_; rw [List.length_cons,nbL_len]; omega
   have HN:=hide (nbL_succ n k)
   go_wp2_with (at_builtin; refine wpList_append_I _ rfl _ _ rfl w.heap.size _ (3::nbL n k) rfl hown _ rfl HL.out HZ.out ?_)
   intro v' w2 r1 r2
   have HO:Hid (OwnI w2 w.heap.size v' (3::nbL n (k+1))):=by
    show OwnI _ _ _ _
    rw [HN.out,← shr_byte n k]
    exact r1
   have HB:Hid (Below w.heap.size w w2):=hb.trans r2
   clear r1 r2 hb hown HN
   go_wp2
   go_roundg (8 - (k+1))
   case rel =>
    go_light
    exact ⟨k+1,by omega,rfl,by go_num,HO.out,HB.out⟩
   case measure=>go_light; omega
  ·obtain rfl:k=8:=by omega
   have hcv:=owni_conv hown (by simp)
   have HB:Hid (Below w.heap.size w wr):=hb
   clear hown hb hlt hk
   rw [show (3::nbL n 8)=rootH n from rfl,HE.out] at hcv
   go_wp2
   go_ret
   exact ⟨rfl,HB.out⟩
structure RdS (w:World) (ao:Option Addr) (b off len:Nat) (ss:List ByteArray):Prop where
 hl:ss.length=len
 ptr:0<len→ao=some ⟨b,off,none⟩
 rng:w.rangeAt b off (ss.map Value.string)
 sz : ∀ s∈ss,s.size≤9223372036854775807
theorem RdS.lt {w:World} {ao:Option Addr} {b off len:Nat} {ss:List ByteArray} (h:RdS w ao b off len ss) (h0:0<len):b<w.heap.size :=
 range_lt h.rng (by intro e; have:=congrArg List.length e; rw [List.length_map,List.length_nil,h.hl] at this; omega)
theorem RdS.next {w W:World} {ao:Option Addr} {b off len B:Nat} {ss:List ByteArray} (h:RdS w ao b off len ss) (hb:Below B w W) (hB:w.heap.size≤B):RdS W ao b off len ss:=by
 refine ⟨h.hl,h.ptr,?_,h.sz⟩
 by_cases h0:0<len
 ·exact range_below hb (Nat.lt_of_lt_of_le (h.lt h0) hB) h.rng
 ·have:ss=[]:=List.length_eq_zero_iff.1 (by rw [h.hl]; omega)
  rw [this]; intro j v hv; cases hv
theorem RdS.at {w:World} {ao:Option Addr} {b off len:Nat} {ss:List ByteArray} (h:RdS w ao b off len ss) {k:Nat} (hk:k<len):w.cell? ⟨b,off+k,none⟩=some (.string (ss.getD k ByteArray.empty)) :=
 h.rng k _ (by have:=h.hl; simp [List.getElem?_eq_getElem (show k<ss.length by omega),List.getD_eq_getElem?_getD])
theorem getD_mem {ss:List ByteArray} {k:Nat} (hk:k<ss.length):ss.getD k ByteArray.empty∈ss:=by
 rw [List.getD_eq_getElem?_getD,List.getElem?_eq_getElem hk]; exact List.getElem_mem _
set_option maxRecDepth 100000 in
theorem leaf_any (w:World) (ht:Tb w) (k:Int) (s:ByteArray) (hs:s.size<2305843009213693952) (r:ByteArray) (hr:dg (clk k) (leafT s)=r) :
  Calls Tryz.prog 49 #[.int .i64 k,.string s] w fun e w'=>e = .returned (.string r)∧Below w.heap.size w w':=by
 have HL:=leaft_any w s hs
 have HO:Hid (∀ W,Below w.heap.size w W→Calls Tryz.prog 94 #[.int .i64 k,.string (leafT s)] W fun e w'=>e = .returned (.string r)∧Below W.heap.size W w'):=fun W hb=>hof_any W (ht.next hb) k _ (by rw [leafT_size]; omega) r hr
 clear hr ht hs
 generalize leafT s=t at *
 go_enter Tryz.func49,Tryz.ntmps49
 go_wp2_with (first
  | (go_at_call 95; with_reducible refine HL.mono ?_; rintro e w1 ⟨rfl,hb1⟩)
  | (go_at_call 94; with_reducible refine (HO.out _ hb1).mono ?_; rintro e w2 ⟨rfl,hb2⟩))
 go_ret
 exact ⟨rfl,bnext hb1 hb2⟩
set_option maxRecDepth 100000 in
theorem node_any (w:World) (ht:Tb w) (k:Int) (a b:ByteArray) (hs:a.size<2305843009213693952) (hs2:b.size<2305843009213693952) (r:ByteArray) (hr:dg (clk k) (nodeT a b)=r) :
  Calls Tryz.prog 51 #[.int .i64 k,.string a,.string b] w fun e w'=>e = .returned (.string r)∧Below w.heap.size w w':=by
 have HL:=nodet_any w a b hs hs2
 have HO:Hid (∀ W,Below w.heap.size w W→Calls Tryz.prog 94 #[.int .i64 k,.string (nodeT a b)] W fun e w'=>e = .returned (.string r)∧Below W.heap.size W w'):=fun W hb=>hof_any W (ht.next hb) k _ (by rw [nodeT_size]; omega) r hr
 clear hr ht hs hs2
 generalize nodeT a b=t at *
 go_enter Tryz.func51,Tryz.ntmps51
 go_wp2_with (first
  | (go_at_call 97; with_reducible refine HL.mono ?_; rintro e w1 ⟨rfl,hb1⟩)
  | (go_at_call 94; with_reducible refine (HO.out _ hb1).mono ?_; rintro e w2 ⟨rfl,hb2⟩))
 go_ret
 exact ⟨rfl,bnext hb1 hb2⟩
def bagL (c:Nat):List ByteArray→ByteArray
 | []=>ByteArray.empty
 | [p]=>p
 | p::q::r=>dg c (bagT p (bagL c (q::r)))
theorem bagL_size {c:Nat} (hc:c≤32) {M:Nat} (hM:32≤M) : ∀ (ss:List ByteArray),(∀ s∈ss,s.size≤M)→(bagL c ss).size≤M
 | [],_=>by simp [bagL]
 | [p],h=>h p (by simp)
 | p::q::r,_=>by rw [bagL,dg_size hc]; omega
theorem bagL_drop (c:Nat) (ss:List ByteArray) (i:Nat) (h:i+1<ss.length):bagL c (ss.drop i)=dg c (bagT (ss.getD i ByteArray.empty) (bagL c (ss.drop (i+1)))):=by
 rw [List.drop_eq_getElem_cons (by omega),List.drop_eq_getElem_cons h,bagL,List.getD_eq_getElem?_getD,List.getElem?_eq_getElem (by omega)]
 rfl
theorem bagL_last (c:Nat) (ss:List ByteArray) (h:0<ss.length):bagL c (ss.drop (ss.length - 1))=ss.getD (ss.length - 1) ByteArray.empty:=by
 rw [List.drop_eq_getElem_cons (by omega),show ss.length - 1+1=ss.length by omega,List.drop_length,bagL,List.getD_eq_getElem?_getD,List.getElem?_eq_getElem (by omega)]
 rfl
set_option maxRecDepth 100000 in
theorem bagged_any (w:World) (ht:Tb w) (k:Int) (ao:Option Addr) (b off len cap:Nat) (ss:List ByteArray) (hr:RdS w ao b off len ss) (hsz : ∀ s∈ss,s.size≤140737488351232) (hmx:len≤8796093022208) (r:ByteArray) (hq:bagL (clk k) ss=r) :
  Calls Tryz.prog 125 #[.int .i64 k,.slice ao len cap] w fun e w'=>e = .returned (.string r)∧Below w.heap.size w w':=by
 by_cases h0:len=0
 ·subst h0
  have:ss=[]:=List.length_eq_zero_iff.1 hr.hl
  subst this
  subst hq
  go_enter Tryz.func125,Tryz.ntmps125
  go_wp2
  go_ret
  exact ⟨rfl,Below.refl _ _⟩
 ·have hlen:0<len:=by omega
  obtain rfl:=hr.ptr hlen
  obtain ⟨m,rfl⟩ : ∃ m,len=m+1:=⟨len - 1,by omega⟩
  have hc:=clk_le k
  have hne : ¬ ((m:Int)+1=0):=by omega
  have cm:=hr.at (k:=m) (by omega)
  have HL:Hid (bagL (clk k) (ss.drop m)=ss.getD m ByteArray.empty):=by
   have:=bagL_last (clk k) ss (by rw [hr.hl]; omega)
   rw [hr.hl] at this; exact this
  have HSZ:Hid (∀ d,d=bagL (clk k) ss→True):=fun _ _=>trivial
  have HM:Hid (∀ j,j<m+1→(ss.getD j ByteArray.empty).size≤140737488351232):=fun j hj=>hsz _ (getD_mem (by rw [hr.hl]; exact hj))
  have HD:Hid (∀ j,(bagL (clk k) (ss.drop j)).size≤140737488351232):=fun j=>bagL_size hc (by decide) _ (fun s hs=>hsz s (List.mem_of_mem_drop hs))
  have HN:Hid (∀ j,j<m→bagL (clk k) (ss.drop j)=dg (clk k) (bagT (ss.getD j ByteArray.empty) (bagL (clk k) (ss.drop (j+1))))):=fun j hj=>bagL_drop _ _ _ (by rw [hr.hl]; omega)
  have HT:Hid (Tb w):=ht
  have HR:Hid (RdS w (some ⟨b,off,none⟩) b off (m+1) ss):=hr
  have HQ:Hid (bagL (clk k) (ss.drop 0)=r):=hq
  obtain ⟨d0,hd0⟩ : ∃ d0,ss.getD m ByteArray.empty=d0:=⟨_,rfl⟩
  rw [hd0] at cm
  have HL2:Hid (bagL (clk k) (ss.drop m)=d0):=by rw [← hd0]; exact HL
  clear hd0 HL ht hr hq hsz HSZ h0 hlen
  go_enter Tryz.func125,Tryz.ntmps125
  go_wp2
  go_loopg [6,7] m (fun g x i wr => ∃ (j:Nat) (d:ByteArray),j=g∧x = .string d∧i = .int .i64 ((j:Int) - 1)∧j≤m∧Hid (bagL (clk k) (ss.drop j)=d)∧Below w.heap.size w wr)
  case atStart =>
   go_light
   exact ⟨m,d0,rfl,rfl,rfl,Nat.le_refl _,HL2,Below.refl _ _⟩
  case round =>
   obtain ⟨j,d,hg,rfl,rfl,hj,HE,hb⟩:=hrel
   subst hg
   cases j with
   | zero =>
    have hz : ¬ ((0:Int) ≤ -1):=by decide
    rw [show ((0:Nat):Int) - 1 = -1 from rfl]
    have HF:Hid (d=r):=HE.out.symm.trans HQ.out
    clear HE HN HQ HM HD HR HT cm
    obtain rfl:=HF.out
    go_wp2
    go_ret
    exact ⟨rfl,hb⟩
   | succ j =>
    have e1:((j+1:Nat):Int) - 1=(j:Int):=by omega
    have hz:(0:Int)≤(j:Int):=by omega
    have hz2:(j:Int)<(m:Int)+1:=by omega
    have hjm:j<m:=by omega
    have cj:=(HR.out.next hb (Nat.le_refl _)).at (k:=j) (by omega)
    have z1:=HM.out j (by omega)
    have z2:=HD.out (j+1)
    have hn:=HN.out j hjm
    rw [HE.out] at z2 hn
    generalize ss.getD j ByteArray.empty=p at *
    have HG:=fun W=>bagt_any W p d (by omega) (by omega) _ rfl
    obtain ⟨t,ht⟩ : ∃ t,bagT p d=t:=⟨_,rfl⟩
    have zt:=bagT_size p d
    rw [ht] at zt
    simp only [ht] at HG hn
    obtain ⟨d',hd'⟩ : ∃ d',dg (clk k) t=d':=⟨_,rfl⟩
    have HO:Hid (∀ W,Below w.heap.size w W→Calls Tryz.prog 94 #[.int .i64 k,.string t] W fun e w'=>e = .returned (.string d')∧Below W.heap.size W w'):=fun W hb=>hof_any W (HT.out.next hb) k t (by omega) d' hd'
    have HE2:Hid (bagL (clk k) (ss.drop j)=d'):=hn.trans hd'
    rw [e1]
    clear HE hn hd' ht zt z1 z2 e1 cm HL2
    go_wp2_with (first
     | (go_at_call 161; with_reducible refine (HG _).mono ?_; rintro e w1 ⟨rfl,hb1⟩; replace hb:=bnext hb hb1; clear hb1)
     | (go_at_call 94; with_reducible refine (HO.out _ hb).mono ?_; rintro e w2 ⟨rfl,hb2⟩; replace hb:=bnext hb hb2; clear hb2))
    go_roundg j
    case rel =>
     go_light
     exact ⟨j,d',rfl,rfl,by go_num,by omega,HE2.out,hb⟩
    case measure=>go_light; omega
set_option maxRecDepth 100000 in
theorem root_any (w:World) (ht:Tb w) (k:Int) (n:Nat) (ao:Option Addr) (b off len cap:Nat) (ss:List ByteArray) (hr:RdS w ao b off len ss) (hsz : ∀ s∈ss,s.size≤140737488351232) (hmx:len≤8796093022208) (r:ByteArray) (hq:dg (clk k) (rootT n (bagL (clk k) ss))=r) :
  Calls Tryz.prog 77 #[.int .i64 k,.int .u64 (n:Int),.slice ao len cap] w fun e w'=>e = .returned (.string r)∧Below w.heap.size w w':=by
 have hz:(bagL (clk k) ss).size≤140737488351232:=bagL_size (clk_le k) (by decide) _ hsz
 obtain ⟨d,hd⟩ : ∃ d,bagL (clk k) ss=d:=⟨_,rfl⟩
 have HBg:=bagged_any w ht k ao b off len cap ss hr hsz hmx d hd
 rw [hd] at hq hz
 obtain ⟨t,hrt⟩ : ∃ t,rootT n d=t:=⟨_,rfl⟩
 have HRt:=fun W=>roott_any W n d (by omega) t hrt
 have zt:=rootT_size n d
 rw [hrt] at hq zt
 have HO:Hid (∀ W,Below w.heap.size w W→Calls Tryz.prog 94 #[.int .i64 k,.string t] W fun e w'=>e = .returned (.string r)∧Below W.heap.size W w'):=fun W hb=>hof_any W (ht.next hb) k t (by omega) r hq
 have hb:=Below.refl w.heap.size w
 clear hq ht hd hrt zt hz hr hsz hmx
 go_enter Tryz.func77,Tryz.ntmps77
 go_wp2_with (first
  | (go_at_call 125; with_reducible refine HBg.mono ?_; rintro e w1 ⟨rfl,hb1⟩; replace hb:=bnext hb hb1; clear hb1)
  | (go_at_call 124; with_reducible refine (HRt _).mono ?_; rintro e w1 ⟨rfl,hb1⟩; replace hb:=bnext hb hb1; clear hb1)
  | (go_at_call 94; with_reducible refine (HO.out _ hb).mono ?_; rintro e w2 ⟨rfl,hb2⟩; replace hb:=bnext hb hb2; clear hb2))
 go_ret
 exact ⟨rfl,hb⟩
end Go.Proofs.YtipcenbndhnnhaaGreatDoor
namespace Go.Proofs.YtipcenbndhnnhaaGreatDoor
open Go.RowKit
def cntU (p:Nat→Bool):Nat→Nat
 | 0=>0
 | n+1=>cntU p n+(if p n then 0 else 1)
theorem cntU_zero {p:Nat→Bool} {n:Nat} (h:cntU p n=0) : ∀ k,k<n→p k=true:=by
 induction n with
 | zero=>intro k hk; omega
 | succ n ih =>
  intro k hk
  simp only [cntU] at h
  by_cases hp:p n=true
  ·by_cases e:k=n
   ·rw [e]; exact hp
   ·exact ih (by omega) k (by omega)
  ·rw [if_neg hp] at h; omega
theorem cntU_congr {p q:Nat→Bool} {n:Nat} (h : ∀ k,k<n→p k=q k):cntU p n=cntU q n:=by
 induction n with
 | zero=>rfl
 | succ n ih=>simp only [cntU]; rw [ih (fun k hk=>h k (by omega)),h n (by omega)]
theorem cntU_set {p q:Nat→Bool} {i:Nat} (hp:p i=false) (hq:q i=true) (hne : ∀ k,k≠i→q k=p k) : ∀ n,i<n→cntU q n+1=cntU p n
 | 0,h=>by omega
 | n+1,h=>by
  simp only [cntU]
  by_cases e:i=n
  ·subst e
   rw [hp,hq,cntU_congr (fun k hk=>hne k (by omega))]
   simp
  ·have:=cntU_set hp hq hne n (by omega)
   rw [hne n (fun h=>e h.symm)]; omega
theorem cntU_none (n:Nat):cntU (fun _=>false) n=n:=by
 induction n with
 | zero=>rfl
 | succ n ih=>simp only [cntU,ih]; rfl
def StepAll (St:Nat→Oper→Prop):Nat→List Oper→Prop
 | _,[]=>True
 | n,o::r=>St n o∧StepAll St (n+1) r
theorem stepAll_at {St:Nat→Oper→Prop} : ∀ {l:List Oper} {n j:Nat} {o:Oper},StepAll St n l→l[j]? = some o→St (n+j) o
 | _::_,n,0,o,h,e=>by simp at e; subst e; exact h.1
 | _::r,n,j+1,o,h,e=>by
  have:=stepAll_at (l:=r) (j:=j) h.2 (by simpa using e)
  rw [show n+(j+1)=n+1+j by omega]; exact this
 | [],_,_,_,_,e=>by simp at e
theorem any_mem {xs:Array Edge} {p:Edge→Bool} (h:xs.toList.any p=true) : ∃ e,e∈xs∧p e=true:=by
 obtain ⟨e,he,hp⟩:=List.any_eq_true.1 h
 exact ⟨e,by simpa using he,hp⟩
theorem getD_put (a:Act) (d:Nat) (v:Value) (h:d<a.tmps.size):(a.put (some d) v).tmps.getD d undef=v:=by
 simp [Act.put,h]
theorem getD_put_ne (a:Act) (d t:Nat) (v:Value) (h:d≠t):(a.put (some d) v).tmps.getD t undef=a.tmps.getD t undef:=by
 simp only [Act.put]
 by_cases ht:t<a.tmps.size
 ·simp [Array.getD,ht,h]
 ·simp [Array.getD,ht]
def puts (a:Act):List Nat→List Value→Act
 | t::sl,v::vs=>puts (a.put (some t) v) sl vs
 | _,_=>a
theorem puts_defers : ∀ (sl:List Nat) (vs:List Value) (a:Act),(puts a sl vs).defers=a.defers
 | [],_,_=>rfl
 | _::_,[],_=>rfl
 | t::sl,v::vs,a=>by rw [puts,puts_defers sl vs]; rfl
theorem puts_size : ∀ (sl:List Nat) (vs:List Value) (a:Act),(puts a sl vs).tmps.size=a.tmps.size
 | [],_,_=>rfl
 | _::_,[],_=>rfl
 | t::sl,v::vs,a=>by rw [puts,puts_size sl vs]; simp [Act.put]
theorem puts_other : ∀ (sl:List Nat) (vs:List Value) (a:Act) (t:Nat),sl.contains t=false→(puts a sl vs).tmps.getD t undef=a.tmps.getD t undef
 | [],_,_,_,_=>rfl
 | _::_,[],_,_,_=>rfl
 | u::sl,v::vs,a,t,h=>by
  simp only [List.contains_cons,Bool.or_eq_false_iff,beq_eq_false_iff_ne] at h
  rw [puts,puts_other sl vs _ t h.2,getD_put_ne _ _ _ _ (fun e=>h.1 e.symm)]
end Go.Proofs.YtipcenbndhnnhaaGreatDoor
namespace Go.Proofs.YtipcenbndhnnhaaGreatDoor
open Go.RowKit
attribute [local go_sem ↓] Go.wp_at_zero Go.wp_at_succ
theorem Tryz.infoS:(Tryz.prog.info? 9).map (fun i=>(i.zero,i.size,i.bytes))=some (some (.string ByteArray.empty),1,16):=by kernel_rfl
theorem rds_one (w:World) (s:ByteArray) (hs:s.size≤9223372036854775807):RdS (w.alloc (.cells #[.string s] 9)) (some ⟨w.heap.size,0,none⟩) w.heap.size 0 1 [s] :=
 ⟨rfl,fun _=>rfl,range_new w [.string s] 9,fun x hx=>by simp at hx; subst hx; exact hs⟩
def OwnS (w:World) (B:Nat) (v:Value) (ss:List ByteArray):Prop:=w.ownsRow B 9 1 v ss.length (ss.map Value.string)
theorem owns_rds {w:World} {B:Nat} {v:Value} {ss:List ByteArray} (h:OwnS w B v ss) (hs : ∀ s∈ss,s.size≤9223372036854775807) : ∃ ao b cap,v = .slice ao ss.length cap∧RdS w ao b 0 ss.length ss∧ss.length≤cap∧(ao=none→cap=0):=by
 obtain ⟨h1,h2⟩:=h
 rcases h2 with ⟨hv,h0⟩ | ⟨g,cap,cur,rfl,hg,hh,hc1,hc,hsz,ht⟩
 ·have:ss=[]:=List.length_eq_zero_iff.1 h0
  subst this
  exact ⟨none,0,0,by rw [hv]; rfl,⟨rfl,fun h=>absurd h (Nat.lt_irrefl 0),(fun j v h=>by cases h),hs⟩,Nat.le_refl _,fun _=>rfl⟩
 ·refine ⟨some ⟨g,0,none⟩,g,cap,rfl,⟨rfl,fun _=>rfl,fun j v hj => ?_,hs⟩,hc1,fun h=>by cases h⟩
  rw [Nat.zero_add,cell_of_row w g j cur 9 (0,0) hh]
  rw [← ht,List.getElem?_take] at hj
  split at hj
  ·simpa using hj
  ·cases hj
theorem wpList_append_S (w:World) {ops:Array Oper} {rest:List Oper} {o:Oper} {a:Act} {Q:Exit→Act→World→Prop}
  (hg:o.guard=none) (s x:Operand) (hop:o.op=Op.call { callee:=Callee.builtin Builtin.append,args:=#[s,x],argTypes:=#[22,22] })
  (B:Nat) (v:Value) (L:List ByteArray) (hs:a.eval s=v) (hown:OwnS w B v L) (ao:Option Addr) (b off cap:Nat) (M:List ByteArray) (hx:a.eval x = .slice ao M.length cap) (hr:RdS w ao b off M.length M) (hn:ao=none→cap=0)
  (hlen:L.length+M.length≤8796093022208) (hB:B≤w.heap.size)
  (hK : ∀ v' w',OwnS w' B v' (L++M)→Below B w w'→wpList Tryz.prog ops Q rest (a.put o.dst v') w'):wpList Tryz.prog ops Q (o::rest) a w:=by
 obtain ⟨i0,hi,hz0,hz1,hz2⟩:=info_parts Tryz.infoS
 have hlt : ∀ k,v.ownBlock=some k→B≤k:=by
  obtain ⟨_,h2⟩:=hown
  rcases h2 with ⟨rfl,_⟩ | ⟨g,cp,cur,rfl,hg,_⟩
  ·intro k hk; cases hk
  ·intro k hk; cases hk; exact hg
 cases ao with
 | none =>
  obtain rfl:=hn rfl
  have hM:M=[]:=by
   cases M with
   | nil=>rfl
   | cons m r=>exact absurd (hr.ptr (by simp)) (by simp)
  subst hM
  refine wpList_append_own_none hg s x _ hop B 9 i0 1 Tryz.underlying22 hi _ _ _ hs hown hx (hK _ w ?_ (Below.refl _ _))
  rw [List.append_nil]; exact hown
 | some ad =>
  have hnews : ∀ j u,(M.map Value.string)[j]? = some u→w.cell? (ad.add j)=some u:=fun j u hu=>by
   have hj:j<M.length:=by have:=(List.getElem?_eq_some_iff.1 hu).1; rwa [List.length_map] at this
   have:=Option.some.inj (hr.ptr (by omega))
   subst this
   rw [Addr.add_mid]; exact hr.rng j u hu
  refine wpList_append_own w hg s x _ hop B 9 i0 (.string ByteArray.empty) 1 16 Tryz.underlying22 hi hz0 hz1 hz2 rfl (by decide) _ _ _ hs hown ad M.length cap (M.map Value.string) hx (by simp) hnews (by intro u hu; obtain ⟨y,_,rfl⟩:=List.mem_map.1 hu; rfl) (by unfold maxLen; omega) (by omega) hB ?_
  intro v' w' h1 h2 _
  refine hK v' w' ?_ ((Below.refl _ _).grown h2 hB hlt)
  rw [OwnS,List.length_append,List.map_append]; exact h1
theorem own_al {w:World} {B:Nat} {v:Value} {l:List ByteArray} (h:OwnS w B v l) (o:Obj):OwnS (w.alloc o) B v l:=by
 obtain ⟨h1,h2⟩:=h
 refine ⟨h1,?_⟩
 rcases h2 with h2 | ⟨g,cap,cur,rfl,hg,hh,r⟩
 ·exact .inl h2
 ·exact .inr ⟨g,cap,cur,rfl,hg,by rw [Below.heap_alloc _ _ _ (Array.getElem?_eq_some_iff.1 hh).1]; exact hh,r⟩
theorem own_next {w W:World} {B B':Nat} {v:Value} {l:List ByteArray} (h:OwnS w B v l) (hb:Below B' w W) (hB:w.heap.size≤B'):OwnS W B v l:=by
 obtain ⟨h1,h2⟩:=h
 refine ⟨h1,?_⟩
 rcases h2 with h2 | ⟨g,cap,cur,rfl,hg,hh,r⟩
 ·exact .inl h2
 ·exact .inr ⟨g,cap,cur,rfl,hg,by rw [hb.block g (Nat.lt_of_lt_of_le (Array.getElem?_eq_some_iff.1 hh).1 hB)]; exact hh,r⟩
theorem own_form {w:World} {B:Nat} {v:Value} {l:List ByteArray} (h:OwnS w B v l) (h0:0<l.length) : ∃ g cap,v = .slice (some ⟨g,0,none⟩) l.length cap∧B≤g∧l.length≤cap∧cap≤maxLen:=by
 obtain ⟨h1,h2⟩:=h
 rcases h2 with ⟨_,h2⟩ | ⟨g,cap,cur,hv,hg,_,hc,hm,_⟩
 ·omega
 ·exact ⟨g,cap,hv,hg,hc,hm⟩
theorem own_cell {w:World} {B g n cap:Nat} {l:List ByteArray} (h:OwnS w B (.slice (some ⟨g,0,none⟩) n cap) l) {j:Nat} (hj:j<l.length):w.cell? ⟨g,j,none⟩=some (.string (l.getD j ByteArray.empty))∧w.frozen? ⟨g,j,none⟩=false:=by
 obtain ⟨h1,h2⟩:=h
 rcases h2 with ⟨h2,_⟩ | ⟨g',cap',cur,hv,hg,hh,hc,hm,hz,ht⟩
 ·cases h2
 ·obtain ⟨e1,e2,e3⟩:=Value.slice.inj hv
  cases e1
  refine ⟨?_,frozen_of_row w g j cur 9 hh⟩
  rw [cell_of_row w g j cur 9 (0,0) hh]
  have:(cur.toList.take (l.length * 1))[j]? = some (.string (l.getD j ByteArray.empty)):=by
   rw [ht]; simp [List.getElem?_eq_getElem hj,List.getD_eq_getElem?_getD]
  rw [List.getElem?_take_of_lt (by omega)] at this
  simpa using this
theorem owns_nil (w:World) (B:Nat):OwnS w B (.slice none 0 0) []:=⟨rfl,.inl ⟨rfl,rfl⟩⟩
end Go.Proofs.YtipcenbndhnnhaaGreatDoor
