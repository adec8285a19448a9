/- Own work. -/
import Derived.Deep.Onto
import Derived.ArgAppend
import Derived.Laws.AppendOwnNone
import Derived.Laws.IdiomStrings
import Derived.Handy
import Derived.Shelf.Strings.OnBuilder
import Derived.Deep.DeepMakePanics
import Derived.OwnWalk
import Derived.WalkLawsBesides
import Derived.Test.YtoblgjledefdbaaGreatDoorQf36
namespace Go.Proofs.YtoblgjledefdbaaGreatDoor
open Go.RowKit
attribute [local go_sem ↓] Go.wp_at_zero Go.wp_at_succ
def cY (l:List UInt8):List Value:=l.map fun b=>Value.int .u8 (b.toNat:Int)
theorem cY_len (l:List UInt8):(cY l).length=l.length:=by simp [cY]
theorem Tryz.infoY:(Tryz.prog.info? 5).map (fun i=>(i.zero,i.size,i.bytes))=some (some (.int .u8 0),1,1):=by kernel_rfl
def OwnY (w:World) (B:Nat) (v:Value) (l:List UInt8):Prop:=w.ownsRow B 5 1 v l.length (cY l)
theorem owny_conv {w:World} {B:Nat} {v:Value} {l:List UInt8} (h:OwnY w B v l):(convert 127 9 v).run Tryz.prog w = .ok (.string ⟨l.toArray⟩) w:=by
 have hc:=fun g=>h.cells (g:=g)
 obtain ⟨h1,h2⟩:=h
 rcases h2 with ⟨rfl,h0⟩ | ⟨g,cap,cur,rfl,hg,hh,r⟩
 ·have:l=[]:=List.length_eq_zero_iff.1 h0
  subst this
  exact run_convert_bytes_nil w 127 5 Tryz.underlying127 Tryz.underlying5 0 0 9 Tryz.underlying9
 ·refine run_convert_bytes_back _ 127 9 5 ⟨g,0,none⟩ cap l Tryz.underlying127 Tryz.underlying5 Tryz.underlying9 fun j hj => ?_
  exact hc g rfl j _ (by simp [cY,List.getElem?_eq_getElem hj])
theorem owny_own {w:World} {B:Nat} {v:Value} {l:List UInt8} (h:OwnY w B v l) : ∀ k,v.ownBlock=some k→B≤k:=by
 obtain ⟨_,h2⟩:=h
 rcases h2 with ⟨rfl,_⟩ | ⟨g,cp,cur,rfl,hg,_⟩
 ·intro k hk; cases hk
 ·intro k hk; cases hk; exact hg
theorem owny_new (w:World):OwnY (w.alloc (.cells #[] 5)) w.heap.size (.slice (some ⟨w.heap.size,0,none⟩) 0 0) [] :=
 ⟨rfl,.inr ⟨w.heap.size,0,#[],rfl,Nat.le_refl _,heap_alloc_new w _,Nat.le_refl _,by unfold maxLen; omega,rfl,rfl⟩⟩
theorem wpList_append_Y (w:World) {ops:Array Oper} {rest:List Oper} {o:Oper} {a:Act} {Q:Exit→Act→World→Prop}
  (hg:o.guard=none) (s x:Operand) (hop:o.op=Op.call { callee:=Callee.builtin Builtin.append,args:=#[s,x],argTypes:=#[127,127] })
  (B:Nat) (v:Value) (L:List UInt8) (hs:a.eval s=v) (hown:OwnY w B v L) (y:Nat) (b:UInt8) (hb:y=b.toNat) (hx:a.eval x = .slice (some ⟨w.heap.size,0,none⟩) 1 1)
  (hlen:L.length≤1000) (hB:B≤w.heap.size)
  (hK : ∀ v' w',OwnY w' B v' (L++[b])→Below B w w'→wpList Tryz.prog ops Q rest (a.put o.dst v') w'):wpList Tryz.prog ops Q (o::rest) a (w.alloc (.cells #[.int .u8 (y:Int)] 5)):=by
 obtain ⟨i0,hi,hz0,hz1,hz2⟩:=info_parts Tryz.infoY
 subst hb
 refine wpList_append_own _ hg s x _ hop B 5 i0 (.int .u8 0) 1 1 Tryz.underlying127 hi hz0 hz1 hz2 rfl (by decide) _ _ _ hs (World.ownsRow.alloc hown _) ⟨w.heap.size,0,none⟩ 1 1 (cY [b]) hx (by simp [cY]) ?_ (by intro u hu; simp [cY] at hu; subst hu; rfl) (by unfold maxLen; omega) (by omega) (by simp; omega) ?_
 ·intro j u hu
  have hj:j=0:=by have:=(List.getElem?_eq_some_iff.1 hu).1; simp [cY] at this; exact this
  subst hj
  have hu':Value.int .u8 (b.toNat:Int)=u:=Option.some.inj hu
  subst hu'
  rw [Addr.add_mid,World.cell?_alloc_new]
  rfl
 ·intro v' w' h1 h2 _
  refine hK v' w' ?_ (((Below.refl _ _).alloc hB _).trans ((Below.refl _ _).grown h2 (by simp; omega) (owny_own hown)))
  rw [OwnY,List.length_append,cY,List.map_append]; exact h1
set_option maxRecDepth 100000 in
theorem or128 : ∀ x:Nat,x<256→x ||| 128=x % 128+128:=by decide
theorem byte_hi (n:Nat):bits .or .u8 ((n:Int) % 256) 128=((UInt8.ofNat (n % 128+128)).toNat:Int):=by
 rw [ofNat_toNat (by omega)]
 have:=u8_or_nat (n % 256) 128 (by omega) (by decide)
 rw [show ((n % 256:Nat):Int)=(n:Int) % 256 by omega,show ((128:Nat):Int)=128 from rfl] at this
 rw [this,or128 _ (by omega)]
 omega
set_option maxRecDepth 100000 in
theorem num_any (w:World) (n:Nat) (hn:n<18446744073709551616) :
  Calls Tryz.prog 311 #[.int .u64 (n:Int)] w fun x w'=>x = .returned (.string ⟨(num n).toArray⟩)∧Below w.heap.size w w':=by
 have HL:=hideC (num_len (n:=n) hn)
 go_enter Tryz.func311,Tryz.ntmps311
 go_wp2
 go_loopg [0,3] n (fun g x v wr => ∃ (m:Nat) (pre:List UInt8),m=g∧x = .int .u64 (m:Int)∧OwnY wr w.heap.size v pre∧Hid (pre++num m=num n∧m≤n)∧Below w.heap.size w wr)
 case atStart =>
  go_light
  exact ⟨n,[],rfl,rfl,owny_new w,⟨rfl,Nat.le_refl _⟩,(Below.refl _ _).alloc (Nat.le_refl _) _⟩
 case round =>
  obtain ⟨m,pre,hg,rfl,hown,HP,hb⟩:=hrel
  subst hg
  have HS:Hid (pre.length≤10∧w.heap.size≤wr.heap.size):=by
   have:=congrArg List.length HP.out.1
   rw [List.length_append] at this
   have:=HL.out
   exact ⟨by omega,hb.size⟩
  by_cases hm:m<128
  ·have hm':(m:Int)<128:=by omega
   have HY:=hideC (ofNat_toNat (x:=m) (by omega)).symm
   have HR:Hid (pre++[UInt8.ofNat m]=num n):=by
    have:=HP.out.1
    rw [num_low hm] at this
    exact this
   go_wp2_with (at_builtin; refine wpList_append_Y _ rfl _ _ rfl w.heap.size _ pre rfl hown m (UInt8.ofNat m) HY.out rfl ?c1 ?c2 ?_)
   case c1=>have:=HS.out; omega
   case c2=>exact HS.out.2
   intro v' w2 r1 r2
   have hcv:=owny_conv r1
   rw [HR.out] at hcv
   go_wp2
   go_ret
   exact ⟨rfl,hb.trans r2⟩
  ·have hm' : ¬ (m:Int)<128:=by omega
   have hm2:(128:Int)≤(m:Int):=by omega
   obtain ⟨c,hc⟩ : ∃ c,c=UInt8.ofNat (m % 128+128):=⟨_,rfl⟩
   obtain ⟨y,hy⟩ : ∃ y,y=c.toNat:=⟨_,rfl⟩
   have ey:=byte_hi m
   rw [← hc,← hy] at ey
   have HY:=hideC hy
   clear hy
   have HR:Hid ((pre++[c])++num (m / 128)=num n∧m / 128≤n):=by
    have:=HP.out
    rw [num_high (by omega),← hc] at this
    exact ⟨by rw [← this.1]; simp,by omega⟩
   clear hc
   have HQ:Hid ((m:Int) / 128=((m / 128:Nat):Int)∧m / 128<m):=⟨by omega,by omega⟩
   go_wp2_with (at_builtin; refine wpList_append_Y _ rfl _ _ rfl w.heap.size _ pre rfl hown y c HY.out rfl ?c1 ?c2 ?_)
   case c1=>have:=HS.out; omega
   case c2=>exact HS.out.2
   intro v' w2 r1 r2
   have hb2:=hb.trans r2
   clear r2 hb hown
   go_wp2
   go_roundg (m / 128)
   case rel =>
    go_light
    exact ⟨m / 128,_,rfl,by rw [← HQ.out.1],r1,HR.out,hb2⟩
   case measure=>go_light; exact HQ.out.2
theorem range_belowC {B:Nat} {a w:World} (hb:Below B a w) {b o:Nat} {cs:List Value} (hlt:b<B) (h:a.rangeAt b o cs):w.rangeAt b o cs:=fun j v hv=>by
 rw [hb.cell (p:=⟨b,o+j,none⟩) hlt]; exact h j v hv
open Cv (RdC zl cU)
section
variable {w W:World} {s:Nat} {a b c d e f:Value}
end
section
variable {q:Nat} {w w1 w2:World}
end
end Go.Proofs.YtoblgjledefdbaaGreatDoor
namespace Go.Proofs.YtoblgjledefdbaaGreatDoor
open Cv (rst cov Chain errS Til)
structure PV where
 kd:Int
 k:Int
 old:Nat
 size:Nat
 S:List Nat
 D:List ByteArray
def cnt (kd k:Int) (old size:Nat) (S:List Nat):Option Nat :=
 if 1≤k∧k≤32∧size≤2^40 then
  if kd=1 then (if old=0∧S.length=1∧errS size S=0 then some (rst 0 size S).length else none)
  else if kd=2 then (if old=0∧errS size S=0 then some (rst 0 size S).length else none)
  else if kd=3 then (if old≤size∧S=[] then some ((cov 0 old).length+(cov old size).length) else none)
  else none
 else none
theorem til_len {A:Nat→Prop} {q:Nat} : ∀ {L:List (Nat×Nat)} {p:Nat},Til A q p L→L.length+p≤q:=by
 intro L
 induction L with
 | nil=>intro p h; have:=h.1; simp; omega
 | cons b L ih =>
  intro p h
  obtain ⟨h1,h2,h3,h4,h5,h6⟩:=h
  have:=ih h6
  have:=Cv.blk_lt b.1 b.2
  simp; omega
theorem rst_le {n:Nat} {S:List Nat} (hn:n≤2^40) (hc:Chain 0 S n):(rst 0 n S).length≤n:=til_len (Cv.rst_but n S hn hc)
theorem chain_len : ∀ {S:List Nat} {x n:Nat},Chain x S n→S.length+x≤n:=by
 intro S
 induction S with
 | nil=>intro x n h; have:x≤n:=h; simp; omega
 | cons i S ih=>intro x n h; have:=ih h.2; have:=h.1; simp; omega
structure CntOk (kd k:Int) (old size:Nat) (S:List Nat) (c:Nat):Prop where
 kd1:1≤kd
 kd3:kd≤3
 k1:1≤k
 k32:k≤32
 hsz:size≤1099511627776
 hc:c≤1099511627776
 hold:old≤size
 len:S.length≤size
 chain:Chain 0 S size
 one:kd=1→S.length=1∧old=0
 two:kd=2→old=0
 three:kd=3→S=[]
theorem cnt_ok {kd k:Int} {old size c:Nat} {S:List Nat} (h:cnt kd k old size S=some c):CntOk kd k old size S c:=by
 unfold cnt at h
 have e40:(2:Nat)^40=1099511627776:=by decide
 split at h
 ·rename_i h0
  obtain ⟨g1,g2,g3⟩:=h0
  split at h
  ·rename_i hk
   split at h
   ·rename_i h1
    obtain ⟨a1,a2,a3⟩:=h1
    have hc:=(Cv.errS_ok a3).2.2.2
    have hl:=chain_len hc
    have hr:=rst_le g3 hc
    cases h
    exact ⟨by omega,by omega,g1,g2,by omega,by omega,by omega,by omega,hc,fun _=>⟨a2,a1⟩,fun h=>by omega,fun h=>by omega⟩
   ·cases h
  ·rename_i hk1
   split at h
   ·rename_i hk
    split at h
    ·rename_i h1
     obtain ⟨a1,a3⟩:=h1
     have hc:=(Cv.errS_ok a3).2.2.2
     have hl:=chain_len hc
     have hr:=rst_le g3 hc
     cases h
     exact ⟨by omega,by omega,g1,g2,by omega,by omega,by omega,by omega,hc,fun h=>by omega,fun _=>a1,fun h=>by omega⟩
    ·cases h
   ·rename_i hk2
    split at h
    ·rename_i hk
     split at h
     ·rename_i h1
      obtain ⟨a1,a3⟩:=h1
      have h1:=Cv.cov_forty old (by omega)
      have h2:=Cv.cov_len old size a1 g3
      cases h
      subst a3
      exact ⟨by omega,by omega,g1,g2,by omega,by omega,a1,by simp,Nat.zero_le _,fun h=>by omega,fun h=>by omega,fun _=>rfl⟩
     ·cases h
    ·cases h
 ·cases h
def flatC (D:List ByteArray):List UInt8:=(D.map (·.data.toList)).flatten
theorem flat_cons (d:ByteArray) (D:List ByteArray):flatC (d::D)=d.data.toList++flatC D:=by simp [flatC]
theorem size_list (d:ByteArray):d.data.toList.length=d.size:=Array.length_toList
theorem flat_len {k:Nat} : ∀ {D:List ByteArray},(∀ d∈D,d.size=k)→(flatC D).length=D.length * k:=by
 intro D
 induction D with
 | nil=>intro _; simp [flatC]
 | cons d D ih =>
  intro h
  rw [flat_cons,List.length_append,size_list,h d (by simp),ih (fun x hx=>h x (by simp [hx])),List.length_cons,Nat.add_mul,Nat.one_mul,Nat.add_comm]
def laidL:Nat→List Nat→List UInt8
 | _,[]=>[]
 | x,i::S=>num (i - x)++laidL (i+1) S
def nxt:Nat→List Nat→Nat
 | x,[]=>x
 | _,i::S=>nxt (i+1) S
theorem laidL_app (i:Nat) : ∀ (S:List Nat) (x:Nat),laidL x (S++[i])=laidL x S++num (i - nxt x S):=by
 intro S
 induction S with
 | nil=>intro x; simp [laidL,nxt]
 | cons a S ih=>intro x; rw [List.cons_append,laidL,ih,laidL,List.append_assoc,nxt]
theorem nxt_app (i:Nat) : ∀ (S:List Nat) (x:Nat),nxt x (S++[i])=i+1:=by
 intro S
 induction S with
 | nil=>intro x; rfl
 | cons a S ih=>intro x; rw [List.cons_append,nxt,ih]
def mid (p:PV):List UInt8:=if p.kd=1 then num (p.S.getD 0 0) else if p.kd=2 then num p.S.length++laidL 0 p.S else num p.old
def enc (p:PV):List UInt8:=UInt8.ofNat p.kd.toNat::UInt8.ofNat p.k.toNat::(num p.size++(mid p++flatC p.D))
def Well (p:PV):Prop:=cnt p.kd p.k p.old p.size p.S=some p.D.length ∧ ∀ d∈p.D,(d.size:Int)=p.k
instance (p:PV):Decidable (Well p):=by unfold Well; infer_instance
end Go.Proofs.YtoblgjledefdbaaGreatDoor
namespace Go.Proofs.YtoblgjledefdbaaGreatDoor
open Go.Shelf
open Go.RowKit
def Tryz.lays156_ren:Go.Shelf.Ren:=⟨fun | 156=>173 | 165=>269 | 166=>270 | 169=>271 | 240=>345 | 241=>346 | 276=>395 | 277=>396 | n=>n,fun | 31=>22 | 9=>9 | 3=>3 | 4=>4 | 0=>0 | 20=>20 | 72=>330 | 76=>334 | 70=>328 | 37=>127 | 75=>333 | 127=>392 | 164=>320 | 5=>5 | 80=>336 | n=>n,fun | n=>n⟩
theorem Tryz.lays156:Go.Proofs.Lays.n156 Tryz.prog Tryz.lays156_ren := {
 mixed:=by kernel_rfl
 f156:=Tryz.func173.trans (congrArg some (by kernel_rfl))
 f165:=Tryz.func269.trans (congrArg some (by kernel_rfl))
 f166:=Tryz.func270.trans (congrArg some (by kernel_rfl))
 f169:=Tryz.func271.trans (congrArg some (by kernel_rfl))
 f240:=Tryz.func345.trans (congrArg some (by kernel_rfl))
 f241:=Tryz.func346.trans (congrArg some (by kernel_rfl))
 f276:=Tryz.func395.trans (congrArg some (by kernel_rfl))
 f277:=Tryz.func396.trans (congrArg some (by kernel_rfl))
 t0:=Tryz.underlying0
 a0:=Tryz.isAgg0
 z0:=Tryz.sizeOf0
 v0:=Tryz.zeroValue0
 t3:=Tryz.underlying3
 a3:=Tryz.isAgg3
 z3:=Tryz.sizeOf3
 v3:=Tryz.zeroValue3
 t4:=Tryz.underlying4
 a4:=Tryz.isAgg4
 z4:=Tryz.sizeOf4
 v4:=Tryz.zeroValue4
 t9:=Tryz.underlying9
 a9:=Tryz.isAgg9
 z9:=Tryz.sizeOf9
 v9:=Tryz.zeroValue9
 t20:=Tryz.underlying20
 a20:=Tryz.isAgg20
 z20:=Tryz.sizeOf20
 v20:=Tryz.zeroValue20
 t31:=Tryz.underlying22
 a31:=Tryz.isAgg22
 z31:=Tryz.sizeOf22
 v31:=Tryz.zeroValue22
 t37:=Tryz.underlying127
 a37:=Tryz.isAgg127
 z37:=Tryz.sizeOf127
 v37:=Tryz.zeroValue127
 t70:=Tryz.underlying328
 a70:=Tryz.isAgg328
 z70:=Tryz.sizeOf328
 v70:=Tryz.zeroValue328
 t72:=Tryz.underlying330
 a72:=Tryz.isAgg330
 z72:=Tryz.sizeOf330
 v72:=Tryz.zeroValue330
 t75:=Tryz.underlying333
 a75:=Tryz.isAgg333
 z75:=Tryz.sizeOf333
 v75:=Tryz.zeroValue333
 t76:=Tryz.underlying334
 a76:=Tryz.isAgg334
 z76:=Tryz.sizeOf334
 v76:=Tryz.zeroValue334
 t127:=Tryz.underlying392
 a127:=Tryz.isAgg392
 z127:=Tryz.sizeOf392
 v127:=Tryz.zeroValue392
 t164:=Tryz.underlying320
 a164:=Tryz.isAgg320
 z164:=Tryz.sizeOf320
 v164:=Tryz.zeroValue320 }
theorem Tryz.Builder_Extra_156:Builder.Extra Tryz.prog Tryz.lays156_ren := {
 sizeBuilder:=by kernel_rfl
 liesBuilder:=by kernel_rfl
 t5:=Tryz.underlying5
 a5:=Tryz.isAgg5
 z5:=Tryz.sizeOf5
 v5:=Tryz.zeroValue5
 infoByte:=by kernel_rfl
 cellsByte:=by kernel_rfl
 sizeByte:=by kernel_rfl
 neB5:=by decide }
theorem Tryz.strings_Join_none (a:Option Addr) (c:Nat) (sep:ByteArray) (w:World) :
  Calls Tryz.prog 173 #[.slice a 0 c,.string sep] w fun e w'=>e = .returned (.string ⟨#[]⟩)∧w'=w:=Any.strings_Join_none Tryz.lays156 Tryz.Builder_Extra_156 a c sep w
theorem Tryz.strings_Join (bk o c:Nat) (xs:List ByteArray) (sep:ByteArray) (w:World) (hcells : ∀ (j:Nat) x,xs[j]? = some x→w.cell? ⟨bk,o+j,none⟩=some (.string x)) (hbk:bk<w.heap.size) (hN:xs.length≤140737488355328) (hcap:xs.length≤c) (hlen:(Lib.join (xs.map (·.data.toList)) sep.data.toList).length≤140737488355328) :
  Calls Tryz.prog 173 #[.slice (some ⟨bk,o,none⟩) xs.length c,.string sep] w fun e w'=>e = .returned (.string ⟨(Lib.join (xs.map (·.data.toList)) sep.data.toList).toArray⟩)∧Below w.heap.size w w':=Any.strings_Join Tryz.lays156 Tryz.Builder_Extra_156 bk o c xs sep w hcells hbk hN hcap hlen
theorem join_flat (D:List ByteArray):Lib.join (D.map (·.data.toList)) []=flatC D:=by
 cases D with
 | nil=>rfl
 | cons d D=>rw [List.map_cons,Lib.join_cons,flat_cons]; simp [Lib.joinTail,flatC]; rfl
theorem join_anyC (w:World) (da:Option Addr) (db dO dc:Nat) (D:List ByteArray) (rd:RdS w da db dO D.length D) (hc:D.length≤dc) (hD:D.length≤140737488355328) (hl:(flatC D).length≤140737488355328) :
  Calls Tryz.prog 173 #[.slice da D.length dc,.string ByteArray.empty] w fun e w'=>e = .returned (.string ⟨(flatC D).toArray⟩)∧Below w.heap.size w w':=by
 have he:ByteArray.empty.data.toList=[]:=rfl
 by_cases h0:D.length=0
 ·have:D=[]:=List.length_eq_zero_iff.1 h0
  subst this
  exact (Tryz.strings_Join_none da dc ByteArray.empty w).mono fun e w' h=>⟨h.1,by rw [h.2]; exact Below.refl _ _⟩
 ·obtain rfl:=rd.ptr (by omega)
  have h:=Tryz.strings_Join db dO dc D ByteArray.empty w (fun j x hx=>rd.rng j _ (by rw [List.getElem?_map,hx]; rfl)) (rd.lt (by omega)) hD hc (by rw [he,join_flat]; exact hl)
  rw [he,join_flat] at h
  exact h
end Go.Proofs.YtoblgjledefdbaaGreatDoor
namespace Go.Proofs.YtoblgjledefdbaaGreatDoor
open Cv (rst cov Chain dnL tno inb)
open Pl (pw)
theorem xor_odd (m:Nat):(2 * m+1) ^^^ (2 * m)=1:=by
 have h1:((2 * m+1) ^^^ (2 * m)) / 2=0:=by
  have e:((2 * m+1) ^^^ (2 * m)) >>> 1=((2 * m+1) >>> 1) ^^^ ((2 * m) >>> 1):=Nat.shiftRight_xor_distrib
  rw [Nat.shiftRight_eq_div_pow,Nat.shiftRight_eq_div_pow,Nat.shiftRight_eq_div_pow,show (2 * m+1) / 2^1=m by omega,show 2 * m / 2^1=m by omega,Nat.xor_self] at e
  simpa using e
 have h2:((2 * m+1) ^^^ (2 * m)) % 2=1:=by
  have e:((2 * m+1) ^^^ (2 * m)) % 2^1=((2 * m+1) % 2^1) ^^^ ((2 * m) % 2^1):=Nat.xor_mod_two_pow
  rw [show (2 * m+1) % 2^1=1 by omega,show 2 * m % 2^1=0 by omega] at e
  exact e
 omega
theorem xor_high {n i H q:Nat} (hq:q % 2=0) (h1:n / 2^H=q+1) (h2:i / 2^H=q):2^H≤n ^^^ i∧n ^^^ i<2^(H+1):=by
 have e:(n ^^^ i) / 2^H=1:=by
  have e:(n ^^^ i) >>> H=(n >>> H) ^^^ (i >>> H):=Nat.shiftRight_xor_distrib
  rw [Nat.shiftRight_eq_div_pow,Nat.shiftRight_eq_div_pow,Nat.shiftRight_eq_div_pow,h1,h2] at e
  obtain ⟨m,rfl⟩ : ∃ m,q=2 * m:=⟨q / 2,by omega⟩
  rw [e,xor_odd]
 have hp:0<2^H:=Nat.two_pow_pos H
 constructor
 ·have:=Nat.div_mul_le_self (n ^^^ i) (2^H)
  rw [e] at this
  omega
 ·have:=Nat.lt_mul_of_div_lt (show (n ^^^ i) / 2^H<2 by omega) hp
  rw [Nat.pow_succ]
  omega
theorem tno_in (i:Nat) : ∀ H K,K * pw H≤i→i<(K+1) * pw H→(tno H K [i]).length=H:=by
 intro H
 induction H with
 | zero =>
  intro K h1 h2
  have hb:inb 0 K i=true:=Cv.inb_iff.2 ⟨h1,h2⟩
  rw [tno,List.filter_cons_of_pos hb]
  simp
 | succ H ih =>
  intro K h1 h2
  have hb:inb (H+1) K i=true:=Cv.inb_iff.2 ⟨h1,h2⟩
  have e1:=Cv.half_lo H K
  have e2:=Cv.half_mid H K
  have e3:=Cv.half_hi H K
  have e4:=Cv.blk_len H K
  rw [tno,List.filter_cons_of_pos hb,List.filter_nil,if_neg (by simp),List.length_append]
  have out : ∀ K',¬ (K' * pw H≤i∧i<(K'+1) * pw H)→(tno H K' [i]).length=1:=fun K' h=>by
   have hb : ¬ inb H K' i=true:=fun e=>h (Cv.inb_iff.1 e)
   exact (Cv.tno_count H K' [i]).1 (by rw [List.filter_cons_of_neg hb]; rfl)
  by_cases hm:i<K * pw (H+1)+pw H
  ·rw [ih (2 * K) (by omega) (by rw [e2]; exact hm),out (2 * K+1) (by omega)]
  ·rw [out (2 * K) (by omega),ih (2 * K+1) (by omega) (by omega)]
   omega
theorem tno_out {i H K:Nat} (h : ¬ (K * pw H≤i∧i<(K+1) * pw H)):(tno H K [i]).length=1:=by
 have hb : ¬ inb H K i=true:=fun e=>h (Cv.inb_iff.1 e)
 exact (Cv.tno_count H K [i]).1 (by rw [List.filter_cons_of_neg hb]; rfl)
theorem dn_after (n i:Nat) : ∀ h lo,(∃ c,lo=c * pw h)→i<lo→((dnL h lo n).flatMap fun b=>tno b.1 b.2 [i]).length=(dnL h lo n).length:=by
 intro h
 induction h with
 | zero=>intro lo _ _; rfl
 | succ h ih =>
  intro lo hc hi
  obtain ⟨c,rfl⟩:=hc
  have e:=Cv.mul_half c h
  rw [dnL]
  split
  ·rw [List.flatMap_cons,List.length_append,List.length_cons,ih _ ⟨2 * c+1,by rw [Nat.add_mul,Nat.one_mul,e]⟩ (by omega),tno_out (by
    intro hx
    dsimp only at hx
    rw [e,Nat.mul_div_cancel _ (Pl.pw_pos h)] at hx
    omega)]
   omega
  ·exact ih _ ⟨2 * c,e⟩ hi
theorem path_sum (n i:Nat) (hin:i<n) : ∀ h lo,(∃ c,lo=c * pw h)→lo≤i→n - lo<pw h →
  ∃ H,((dnL h lo n).flatMap fun b=>tno b.1 b.2 [i]).length+1=H+(dnL h lo n).length∧2^H≤n ^^^ i∧n ^^^ i<2^(H+1)∧H<h:=by
 intro h
 induction h with
 | zero=>intro lo _ h1 h2; have:pw 0=1:=rfl; omega
 | succ h ih =>
  intro lo hc h1 h2
  obtain ⟨c,rfl⟩:=hc
  have e:=Cv.mul_half c h
  have hp:=Pl.pw_pos h
  have hs:=Pl.pw_succ h
  rw [dnL]
  split
  ·rename_i hfit
   have hq:c * pw (h+1) / pw h=2 * c:=by rw [e,Nat.mul_div_cancel _ hp]
   rw [List.flatMap_cons,List.length_append,List.length_cons,hq]
   by_cases hm:i<c * pw (h+1)+pw h
   ·refine ⟨h,?_,?_⟩
    ·rw [tno_in i h (2 * c) (by omega) (by rw [Nat.add_mul,Nat.one_mul]; omega),dn_after n i h _ ⟨2 * c+1,by rw [Nat.add_mul,Nat.one_mul,e]⟩ hm]
     omega
    ·have a1:n / 2^h=2 * c+1:=by
      have:n / pw h=2 * c+1:=by
       apply Nat.div_eq_of_lt_le
       ·rw [Nat.add_mul,Nat.one_mul]; omega
       ·rw [Nat.add_mul,Nat.add_mul,Nat.one_mul]; omega
      exact this
     have a2:i / 2^h=2 * c:=by
      have:i / pw h=2 * c:=by
       apply Nat.div_eq_of_lt_le
       ·omega
       ·rw [Nat.add_mul,Nat.one_mul]; omega
      exact this
     obtain ⟨b1,b2⟩:=xor_high (q:=2 * c) (by omega) a1 a2
     exact ⟨b1,b2,by omega⟩
   ·obtain ⟨H,g1,g2,g3,g4⟩:=ih (c * pw (h+1)+pw h) ⟨2 * c+1,by rw [Nat.add_mul,Nat.one_mul,e]⟩ (by omega) (by omega)
    refine ⟨H,?_,g2,g3,by omega⟩
    rw [tno_out (by intro hx; dsimp only at hx; rw [Nat.add_mul,Nat.one_mul,← e] at hx; omega)]
    omega
  ·rename_i hfit
   obtain ⟨H,g1,g2,g3,g4⟩:=ih (c * pw (h+1)) ⟨2 * c,e⟩ h1 (by omega)
   exact ⟨H,g1,g2,g3,by omega⟩
theorem path_cnt {n i:Nat} (hn:n≤2^40) (hin:i<n) : ∃ H,(rst 0 n [i]).length+1=H+Pl.ones 64 n∧2^H≤n ^^^ i∧n ^^^ i<2^(H+1)∧H≤40:=by
 have hp:n<pw 41:=by
  have:pw 41=2 * 2^40:=rfl
  omega
 obtain ⟨H,g1,g2,g3,g4⟩:=path_sum n i hin 41 0 ⟨0,by simp⟩ (Nat.zero_le _) (by simpa using hp)
 have hc:Chain 0 [i] n:=⟨Nat.zero_le _,hin⟩
 refine ⟨H,?_,g2,g3,by omega⟩
 rw [Cv.rest_ref n [i] hn hc,g1,← Cv.cov_zero n hn,Cv.cov_ones n hn]
end Go.Proofs.YtoblgjledefdbaaGreatDoor
namespace Go.Proofs.YtoblgjledefdbaaGreatDoor
open Go.RowKit
open Pl (isOne_any pw)
attribute [local go_sem ↓] Go.wp_at_zero Go.wp_at_succ
theorem mod_step (n k:Nat):n % 2^(k+1)=n % 2^k+2^k * (n / 2^k % 2):=by rw [Nat.pow_succ,Nat.mod_mul]
theorem log_any (n:Nat) (w:World) (hn:n<2^64) :
  Calls Tryz.prog 408 #[.int .u64 (n:Int)] w fun e w' => ∃ c:Nat,e = .returned (.int .i64 ((c:Int) - 1))∧n<2^c∧c≤64∧(0<c→2^(c - 1)≤n)∧w=w':=by
 go_enter Tryz.func408,Tryz.ntmps408
 go_wp2
 go_loopg [3,4,5] 64 (fun g r i4 i wr => ∃ k c:Nat,k≤64∧g=64 - k∧i = .int .i64 (k:Int)∧r = .int .i64 ((c:Int) - 1)∧c≤k∧n % 2^k<2^c∧(0<c→2^(c - 1)≤n % 2^k)∧w=wr)
 case atStart =>
  go_light
  exact ⟨0,0,Nat.zero_le _,rfl,rfl,rfl,Nat.zero_le _,by simp [Nat.mod_one],fun h=>absurd h (Nat.lt_irrefl 0),rfl⟩
 case round =>
  obtain ⟨k,c,hk,rfl,rfl,rfl,hc,hs,hs2,rfl⟩:=hrel
  have hk0:(0:Int)≤(k:Int):=Int.natCast_nonneg _
  by_cases hlt:k<64
  ·have hk8:(k:Int)<64:=by omega
   have HM:=mod_step n k
   have HC:=isOne_any n k w hn hlt
   have hlt2:n % 2^k<2^k:=Nat.mod_lt _ (Nat.two_pow_pos k)
   by_cases hb:n / 2^k % 2=1
   ·rw [decide_eq_true hb] at HC
    rw [hb,Nat.mul_one] at HM
    have HX:Hid (n % 2^(k+1)<2^(k+1)∧2^k≤n % 2^(k+1)):=⟨Nat.mod_lt _ (Nat.two_pow_pos _),by omega⟩
    clear hs hs2 hc HM hlt2
    go_wp2_with (go_at_call 224; refine HC.mono ?_; rintro e w' ⟨rfl,rfl⟩)
    go_roundg (64 - (k+1))
    case rel =>
     go_light
     exact ⟨k+1,k+1,by omega,rfl,by go_num,by congr 1; omega,Nat.le_refl _,HX.out.1,fun _=>HX.out.2,rfl⟩
    case measure=>go_light; omega
   ·rw [decide_eq_false hb] at HC
    have hb0:n / 2^k % 2=0:=by omega
    rw [hb0,Nat.mul_zero,Nat.add_zero] at HM
    have HX:Hid (n % 2^(k+1)<2^c∧c≤k+1∧(0<c→2^(c - 1)≤n % 2^(k+1))):=⟨by rw [HM]; exact hs,by omega,by rw [HM]; exact hs2⟩
    clear hs hs2 hc HM hlt2
    go_wp2_with (go_at_call 224; refine HC.mono ?_; rintro e w' ⟨rfl,rfl⟩)
    go_roundg (64 - (k+1))
    case rel =>
     go_light
     exact ⟨k+1,c,by omega,rfl,by go_num,rfl,HX.out.2.1,HX.out.1,HX.out.2.2,rfl⟩
    case measure=>go_light; omega
  ·obtain rfl:k=64:=by omega
   have HX:Hid (n<2^c∧c≤64∧(0<c→2^(c - 1)≤n)):=by
    rw [Nat.mod_eq_of_lt hn] at hs hs2
    exact ⟨hs,hc,hs2⟩
   clear hs hs2 hc hlt
   go_wp2
   go_ret
   exact ⟨c,rfl,HX.out.1,HX.out.2.1,HX.out.2.2,rfl⟩
theorem log_at (n H:Nat) (w:World) (hn:n<2^64) (h1:2^H≤n) (h2:n<2^(H+1)) :
  Calls Tryz.prog 408 #[.int .u64 (n:Int)] w fun e w'=>e = .returned (.int .i64 (H:Int))∧w'=w:=by
 refine (log_any n w hn).mono ?_
 rintro e w' ⟨c,rfl,g1,g2,g3,rfl⟩
 have hc:c=H+1:=by
  have a1:H<c:=by
   apply Classical.byContradiction
   intro h
   have:=Nat.pow_le_pow_right (n:=2) (by decide) (show c≤H by omega)
   omega
  have a2:c - 1<H+1:=by
   apply Classical.byContradiction
   intro h
   have:=Nat.pow_le_pow_right (n:=2) (by decide) (show H+1≤c - 1 by omega)
   have:=g3 (by omega)
   omega
  omega
 subst hc
 exact ⟨by congr 2; omega,rfl⟩
end Go.Proofs.YtoblgjledefdbaaGreatDoor
namespace Go.Proofs.YtoblgjledefdbaaGreatDoor
open Go.RowKit
attribute [local go_sem ↓] Go.wp_at_zero Go.wp_at_succ
theorem ba_ext {a b:ByteArray} (h:a.data.toList=b.data.toList):a=b:=by
 obtain ⟨⟨l⟩⟩:=a
 obtain ⟨⟨m⟩⟩:=b
 simp only at h
 rw [h]
end Go.Proofs.YtoblgjledefdbaaGreatDoor
namespace Go.Proofs.YtoblgjledefdbaaGreatDoor
open Go.RowKit
open Cv (rst cov errS)
attribute [local go_sem ↓] Go.wp_at_zero Go.wp_at_succ
abbrev pv6 (kd k:Int) (old size:Nat) (s d:Value):Value := .agg #[.int .i64 kd,.int .i64 k,.int .u64 (old:Int),.int .u64 (size:Int),s,d]
theorem box6 (w:World) (a b c d e f:Value) : ∃ W,w.alloc (.cells #[a,b,c,d,e,f] 138)=W∧Six W w.heap.size a b c d e f∧Below w.heap.size w W∧W.heap.size=w.heap.size+1 :=
 ⟨_,rfl,six_new w a b c d e f,bal (Below.refl _ _) _,by simp⟩
theorem rd_of {w:World} {ao:Option Addr} {b off len:Nat} {l:List Nat} (h:RdU w ao b off len l):Cv.Rd w ao b off len l:=⟨h.hl,h.ptr,fun _ hj=>h.at hj⟩
theorem sum_i (a b:Nat) (ha:a≤100) (hb:b≤100):wrap64 ((a:Int)+(b:Int))=(a:Int)+(b:Int):=by unfold wrap64; omega
theorem one_i (a:Nat) (ha:a≤100):wrap64 (a:Int)=(a:Int):=by unfold wrap64; omega
theorem own_lenC {w:World} {B e size n m c:Nat} {ao:Option Addr} {xs:List Value} (h:w.ownsRow B e size (.slice ao m c) n xs):m=n:=by
 rcases h.2 with ⟨h,h0⟩ | ⟨g,cap,cur,h,_⟩
 ·cases h; omega
 ·cases h; rfl
section
variable (w:World) (kd k:Int) (old size:Nat) (sa:Option Addr) (sb so sc:Nat) (S:List Nat) (d:Value)
set_option maxRecDepth 100000 in
theorem cpath_no (rs:RdU w sa sb so S.length S) (h : ¬ (old=0∧S.length=1∧S.getD 0 0<size)) :
  Calls Tryz.prog 382 #[pv6 kd k old size (.slice sa S.length sc) d] w fun e w'=>e = .returned (.tuple #[.int .u64 0,.int .i64 150])∧Below w.heap.size w w':=by
 by_cases h1:old=0
 ·subst h1
  by_cases h2:S.length=1
  ·have h3 : ¬ S.getD 0 0<size:=fun h3=>h ⟨rfl,h2,h3⟩
   have hp:=rs.ptr (by omega)
   subst hp
   obtain ⟨W,hW,h6,hb,hz⟩:=box6 w (.int .i64 kd) (.int .i64 k) (.int .u64 0) (.int .u64 (size:Int)) (.slice (some ⟨sb,so,none⟩) 1 sc) d
   obtain ⟨e0,e1,e2,e3,e4,e5⟩:=h6.cells
   have HB:Hid (Below w.heap.size w W):=hb
   have hc:=(rs.next hb).at (j:=0) (by omega)
   rw [Nat.add_zero] at hc
   generalize S.getD 0 0=i at *
   have h3':decide ((size:Int)≤(i:Int))=true:=decide_eq_true (by omega)
   have h3n:size≤i:=by omega
   rw [h2]
   clear rs h h2 h3 h6 hb
   go_enter Tryz.func382,Tryz.ntmps382
   go_upto_region 1 with (fail)
   try rw [hW]
   clear hW
   go_quiet (fail)
   go_wp2
   go_ret2
   exact ⟨rfl,below_drewN HB.out _⟩
  ·have h2' : ¬ (S.length:Int)=1:=by omega
   generalize S.length=m at *
   obtain ⟨W,hW,h6,hb,hz⟩:=box6 w (.int .i64 kd) (.int .i64 k) (.int .u64 0) (.int .u64 (size:Int)) (.slice sa m sc) d
   obtain ⟨e0,e1,e2,e3,e4,e5⟩:=h6.cells
   have HB:Hid (Below w.heap.size w W):=hb
   clear rs h h2 h6 hb
   go_enter Tryz.func382,Tryz.ntmps382
   go_upto_region 1 with (fail)
   try rw [hW]
   clear hW
   go_quiet (fail)
   go_wp2
   go_ret2
   exact ⟨rfl,below_drewN HB.out _⟩
 ·have h1':((old:Int) != 0)=true:=bne_iff_ne.2 (by omega)
  obtain ⟨W,hW,h6,hb,hz⟩:=box6 w (.int .i64 kd) (.int .i64 k) (.int .u64 (old:Int)) (.int .u64 (size:Int)) (.slice sa S.length sc) d
  obtain ⟨e0,e1,e2,e3,e4,e5⟩:=h6.cells
  have HB:Hid (Below w.heap.size w W):=hb
  clear rs h h6 hb h1
  go_enter Tryz.func382,Tryz.ntmps382
  go_upto_region 1 with (fail)
  try rw [hW]
  clear hW
  go_quiet (fail)
  go_wp2
  go_ret2
  exact ⟨rfl,below_drewN HB.out _⟩
set_option maxRecDepth 100000 in
theorem cbatch_no (hold:old<18446744073709551616) (rs:RdU w sa sb so S.length S) (hm:S.length≤17592186044416) (h : ¬ (old=0∧errS size S=0)) :
  Calls Tryz.prog 383 #[pv6 kd k old size (.slice sa S.length sc) d] w fun e w'=>e = .returned (.tuple #[.int .u64 0,.int .i64 150])∧Below w.heap.size w w':=by
 obtain ⟨W,hW,h6,hb,hz⟩:=box6 w (.int .i64 kd) (.int .i64 k) (.int .u64 (old:Int)) (.int .u64 (size:Int)) (.slice sa S.length sc) d
 obtain ⟨e0,e1,e2,e3,e4,e5⟩:=h6.cells
 have HC:=Cv.count_any size W sa sb so S.length sc S (rd_of (rs.next hb)) hm
 have HB:Hid (∀ w',Below W.heap.size W w'→Below w.heap.size w w'∧w'.cell? ⟨w.heap.size,2,none⟩=some (.int .u64 (old:Int))):=fun w' hb'=>⟨bnext hb hb',(h6.next hb').cells.2.2.1⟩
 have HE:Hid (¬ (old=0∧errS size S=0)∧old<18446744073709551616):=⟨h,hold⟩
 clear rs h h6 hb hm hold
 generalize errS size S=er at *
 generalize (Cv.rstS size S).length=cc at *
 generalize S.length=m at *
 by_cases h1:er=0
 ·subst h1
  have h2:((old:Int) != 0)=true:=bne_iff_ne.2 (by have:=HE.out; omega)
  go_enter Tryz.func383,Tryz.ntmps383
  go_wp2_with (go_at_call 323; (try rw [hW]); with_reducible refine HC.mono ?_; rintro x w1 ⟨rfl,hb1⟩; obtain ⟨q1,q2⟩:=HB.out _ hb1)
  go_ret2
  exact ⟨rfl,q1⟩
 ·have h2:((er:Int) != 0)=true:=bne_iff_ne.2 (by omega)
  go_enter Tryz.func383,Tryz.ntmps383
  go_wp2_with (go_at_call 323; (try rw [hW]); with_reducible refine HC.mono ?_; rintro x w1 ⟨rfl,hb1⟩; obtain ⟨q1,q2⟩:=HB.out _ hb1)
  go_ret2
  exact ⟨rfl,q1⟩
set_option maxRecDepth 100000 in
theorem cbatch_yes (rs:RdU w sa sb so S.length S) (hm:S.length≤17592186044416) (h:errS size S=0) :
  Calls Tryz.prog 383 #[pv6 kd k 0 size (.slice sa S.length sc) d] w fun e w'=>e = .returned (.tuple #[.int .u64 ((rst 0 size S).length:Nat),.int .i64 0])∧Below w.heap.size w w':=by
 obtain ⟨W,hW,h6,hb,hz⟩:=box6 w (.int .i64 kd) (.int .i64 k) (.int .u64 0) (.int .u64 (size:Int)) (.slice sa S.length sc) d
 obtain ⟨e0,e1,e2,e3,e4,e5⟩:=h6.cells
 have HC:=Cv.count_ok size W sa sb so S.length sc S (rd_of (rs.next hb)) hm h
 have HB:Hid (∀ w',Below W.heap.size W w'→Below w.heap.size w w'∧w'.cell? ⟨w.heap.size,2,none⟩=some (.int .u64 0)):=fun w' hb'=>⟨bnext hb hb',(h6.next hb').cells.2.2.1⟩
 clear rs h h6 hb hm
 generalize (rst 0 size S).length=cc at *
 generalize S.length=m at *
 go_enter Tryz.func383,Tryz.ntmps383
 go_wp2_with (go_at_call 323; (try rw [hW]); with_reducible refine HC.mono ?_; rintro x w1 ⟨rfl,hb1⟩; obtain ⟨q1,q2⟩:=HB.out _ hb1)
 go_ret2
 exact ⟨rfl,q1⟩
set_option maxRecDepth 100000 in
theorem ckin_no (hn:size≤2^40) (hS:S.length≤17592186044416) (h : ¬ (old≤size∧S.length=0)) :
  Calls Tryz.prog 384 #[pv6 kd k old size (.slice sa S.length sc) d] w fun e w'=>e = .returned (.tuple #[.int .u64 0,.int .i64 150])∧Below w.heap.size w w':=by
 obtain ⟨W,hW,h6,hb,hz⟩:=box6 w (.int .i64 kd) (.int .i64 k) (.int .u64 (old:Int)) (.int .u64 (size:Int)) (.slice sa S.length sc) d
 obtain ⟨e0,e1,e2,e3,e4,e5⟩:=h6.cells
 have HC:=Cv.range_any old size size W
 have HB:Hid (∀ w',Below W.heap.size W w'→Below w.heap.size w w'∧w'.cell? ⟨w.heap.size,4,none⟩=some (.slice sa S.length sc)):=fun w' hb'=>⟨bnext hb hb',(h6.next hb').cells.2.2.2.2.1⟩
 have he:Cv.errR old size size=0↔old≤size:=by
  unfold Cv.errR
  rw [if_neg (by omega),if_neg (by omega)]
  split <;> omega
 have HE:Hid (¬ (Cv.errR old size size=0∧S.length=0)∧S.length≤17592186044416):=⟨by rw [he]; exact h,hS⟩
 clear h h6 hb he hn hS
 generalize Cv.errR old size size=er at *
 generalize Cv.zl (Cv.covR old size size)=cc at *
 generalize S.length=m at *
 by_cases h1:er=0
 ·subst h1
  have h2:((m:Int) != 0)=true:=bne_iff_ne.2 (by have:=HE.out; omega)
  go_enter Tryz.func384,Tryz.ntmps384
  go_wp2_with (go_at_call 181; (try rw [hW]); with_reducible refine HC.mono ?_; rintro x w1 ⟨v,rfl,ho,hb1⟩; obtain ⟨q1,q2⟩:=HB.out _ hb1)
  go_ret2
  exact ⟨rfl,q1⟩
 ·have h2:((er:Int) != 0)=true:=bne_iff_ne.2 (by omega)
  go_enter Tryz.func384,Tryz.ntmps384
  go_wp2_with (go_at_call 181; (try rw [hW]); with_reducible refine HC.mono ?_; rintro x w1 ⟨v,rfl,ho,hb1⟩; obtain ⟨q1,q2⟩:=HB.out _ hb1)
  go_ret2
  exact ⟨rfl,q1⟩
set_option maxRecDepth 100000 in
theorem ckin_yes (hn:size≤2^40) (h1:old≤size) :
  Calls Tryz.prog 384 #[pv6 kd k old size (.slice sa 0 sc) d] w fun e w'=>e = .returned (.tuple #[.int .u64 (((cov 0 old).length+(cov old size).length:Nat):Int),.int .i64 0])∧Below w.heap.size w w':=by
 obtain ⟨W,hW,h6,hb,hz⟩:=box6 w (.int .i64 kd) (.int .i64 k) (.int .u64 (old:Int)) (.int .u64 (size:Int)) (.slice sa 0 sc) d
 obtain ⟨e0,e1,e2,e3,e4,e5⟩:=h6.cells
 have HC:=Cv.range_ok old size size W hn (Nat.le_refl _) h1
 have HB:Hid (∀ w',Below W.heap.size W w'→Below w.heap.size w w'∧w'.cell? ⟨w.heap.size,4,none⟩=some (.slice sa 0 sc)∧w'.cell? ⟨w.heap.size,2,none⟩=some (.int .u64 (old:Int))):=fun w' hb'=>⟨bnext hb hb',(h6.next hb').cells.2.2.2.2.1,(h6.next hb').cells.2.2.1⟩
 have HO:=fun W'=>Pl.ones_any old W' (by omega)
 have hc1:=Cv.cov_ones old (by omega)
 have hc2:=Cv.cov_len old size h1 hn
 have hc3:=Cv.cov_forty old (by omega)
 have hc4:(Cv.zl (cov old size)).length=(cov old size).length:=Cv.zl_len _
 rw [← hc1] at HO
 generalize (cov 0 old).length=a at *
 generalize Cv.zl (cov old size)=Z at *
 generalize (cov old size).length=b at *
 obtain ⟨c,hc⟩ : ∃ c,a+b=c:=⟨_,rfl⟩
 rw [hc]
 have ew2:wrap64 ((a:Int)+(b:Int))=(c:Int):=by unfold wrap64; omega
 have es:IntKind.u64.wrap (c:Int)=(c:Int):=by rw [IntKind.wrap_u64]; omega
 have ha:(a:Int)≤40:=by omega
 have hbb:(b:Int)≤80:=by omega
 have HZ:Hid (Z.length=b):=hc4
 have HCc:Hid ((a:Int)+(b:Int)=(c:Int)):=(by omega:(a:Int)+(b:Int)=(c:Int))
 clear h6 hb hn h1 hc1 hc2 hc3 hc hc4
 go_enter Tryz.func384,Tryz.ntmps384
 go_upto_region 4 with (go_at_call 181; (try rw [hW]); with_reducible refine HC.mono ?_; rintro x w1 ⟨v,rfl,ho,hb1⟩; obtain ⟨q1,q2,q3⟩:=HB.out _ hb1; obtain ⟨ao,m,cp,rfl⟩:=Cv.own_slice ho; obtain rfl:m=b:=by (have h:=own_lenC ho; rw [HZ.out] at h; exact h))
 clear ho hb1
 have HQ:=hideC q1
 clear q1
 go_wp2_with (go_at_call 138; with_reducible refine (HO _).mono ?_; rintro x w2 ⟨rfl,rfl⟩)
 go_ret2
 refine ⟨?_,HQ.out⟩
 show Ending.returned (.tuple #[.int .u64 ((a:Int)+(m:Int)),.int .i64 0])=_
 rw [HCc.out]
end
end Go.Proofs.YtoblgjledefdbaaGreatDoor
