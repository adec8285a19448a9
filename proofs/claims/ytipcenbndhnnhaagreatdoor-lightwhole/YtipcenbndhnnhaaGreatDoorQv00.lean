/- Own work. -/
import Derived.Test.YtipcenbndhnnhaaGreatDoorQd44
import Derived.Test.YtipcenbndhnnhaaGreatDoorQd46
import Derived.Deep.Onto
import Derived.ArgAppend
import Derived.Laws.AppendOwnNone
import Derived.Laws.IdiomStrings
import Derived.Deep.RegionWith
import Derived.Handy
import Derived.KernelRfl
import Derived.WalkKit
import Derived.WalkSpells
import Derived.Outline
import Derived.Deep.LoopGhost
import Derived.Deep.RegionHeld3
import Derived.Deep.MidRow
import Derived.Deep.DrawnRows
import Derived.Deep.Light
import Derived.Deep.Cut
import Derived.Deep.CutRange
import Derived.Lib.SliceRun
import Derived.Test.YtipcenbndhnnhaaGreatDoorProg
import Derived.Below
import Derived.Lib.LazyBuf
import Derived.Deep.RegionLaw
import Derived.Lib.BufferOwn
import Derived.Test.YtipcenbndhnnhaaGreatDoorRows
import Derived.Maps.Keyed
import Derived.DeepKeys4
import Derived.Lib.AppendZeros
import Derived.Deep.OwnRows
import Derived.BigQuiet
import Derived.WalkMore
import Derived.Laws.Bits64b
import Derived.Defers
import Derived.Recover
import Derived.Deep.DeepMakePanics
import Derived.OwnWalk
import Derived.WalkLawsBesides
import Derived.Laws.BitsAllLaws
import Derived.Shelf.Strings.OnBuilder
import Derived.Deep.AppendSrc
import Derived.Lib.AppendStr
import Derived.Deep.Upon
import Derived.BigRegion
import Derived.Laws.StructEq
import Derived.Lib.BufferMore
import Derived.Deep.AppendLies
namespace Go.Proofs.YtipcenbndhnnhaaGreatDoor
open Go.RowKit
structure Wy (n i:Nat) (A:List (Nat×Nat)) (H:Nat) (B:List (Nat×Nat)):Prop where
 all:Cv.dnL 41 0 n=A++(H,i / 2^H)::B
 hH:H≤40
 left : ∀ a∈A,(a.2+1) * 2^a.1≤i
 right : ∀ b∈B,i<b.2 * 2^b.1
theorem dn_ge (n:Nat) : ∀ h lo,2^h ∣ lo → ∀ b∈Cv.dnL h lo n,lo≤b.2 * 2^b.1
 | 0,lo,_,b,hb=>by cases hb
 | h+1,lo,hd,b,hb=>by
  have hp:=Nat.two_pow_pos h
  have hd':2^h ∣ lo:=Nat.dvd_trans (Nat.pow_dvd_pow 2 (by omega)) hd
  rw [Cv.dnL,show Pl.pw h=2^h from rfl] at hb
  split at hb
  ·rcases List.mem_cons.1 hb with rfl | hb
   ·show lo≤lo / 2^h * 2^h
    rw [Nat.div_mul_cancel hd']
    exact Nat.le_refl _
   ·have:=dn_ge n h (lo+2^h) (Nat.dvd_add hd' (Nat.dvd_refl _)) b hb
    omega
  ·exact dn_ge n h lo hd' b hb
theorem dn_has (n i:Nat) (hi:i<n) : ∀ h lo,lo≤i→n - lo<2^h→2^h ∣ lo → ∃ A H B,Cv.dnL h lo n=A++(H,i / 2^H)::B∧H<h∧(∀ a∈A,(a.2+1) * 2^a.1≤i) ∧ ∀ b∈B,i<b.2 * 2^b.1
 | 0,lo,h1,h2,_=>by rw [Nat.pow_zero] at h2; omega
 | h+1,lo,h1,h2,hd=>by
  have hp:=Nat.two_pow_pos h
  have hd':2^h ∣ lo:=Nat.dvd_trans (Nat.pow_dvd_pow 2 (by omega)) hd
  have hd2:2^h ∣ lo+2^h:=Nat.dvd_add hd' (Nat.dvd_refl _)
  rw [Nat.pow_succ] at h2
  rw [Cv.dnL,show Pl.pw h=2^h from rfl]
  by_cases hf:2^h≤n - lo
  ·rw [if_pos hf]
   by_cases hm:i<lo+2^h
   ·refine ⟨[],h,Cv.dnL h (lo+2^h) n,?_,by omega,(fun a ha=>by cases ha),fun b hb => ?_⟩
    ·have:i / 2^h=lo / 2^h:=by
      obtain ⟨q,rfl⟩:=hd'
      rw [Nat.mul_div_cancel_left _ hp]
      exact Nat.div_eq_of_lt_le (by rw [Nat.mul_comm]; omega) (by rw [Nat.add_mul,Nat.mul_comm]; omega)
     rw [this]; rfl
    ·have:=dn_ge n h _ hd2 b hb
     omega
   ·obtain ⟨A,H,B,e,hH,hl,hr⟩:=dn_has n i hi h (lo+2^h) (by omega) (by omega) hd2
    refine ⟨(h,lo / 2^h)::A,H,B,by rw [e]; rfl,by omega,fun a ha => ?_,hr⟩
    rcases List.mem_cons.1 ha with rfl | ha
    ·show (lo / 2^h+1) * 2^h≤i
     rw [Nat.add_mul,Nat.div_mul_cancel hd']
     omega
    ·exact hl a ha
  ·rw [if_neg hf]
   obtain ⟨A,H,B,e,hH,hl,hr⟩:=dn_has n i hi h lo h1 (by omega) hd'
   exact ⟨A,H,B,e,by omega,hl,hr⟩
theorem wy_ex (n i:Nat) (hn:n≤2^40) (hi:i<n) : ∃ A H B,Wy n i A H B:=by
 obtain ⟨A,H,B,e,hH,hl,hr⟩:=dn_has n i hi 41 0 (Nat.zero_le _) (by omega) (Nat.dvd_zero _)
 exact ⟨A,H,B,e,by omega,hl,hr⟩
section
variable {n i H:Nat} {A B:List (Nat×Nat)}
theorem Wy.len (h:Wy n i A H B):A.length+B.length≤40:=by
 have:=Cv.dn_len 41 0 n
 rw [h.all,List.length_append,List.length_cons] at this
 omega
theorem Wy.no_left (h:Wy n i A H B) {a:Nat×Nat} (ha:a∈A):a.2<i / 2^a.1:=by
 have:=h.left a ha
 exact (Nat.le_div_iff_mul_le (Nat.two_pow_pos _)).2 this
theorem Wy.no_right (h:Wy n i A H B) {b:Nat×Nat} (hb:b∈B):i / 2^b.1<b.2:=by
 have:=h.right b hb
 exact (Nat.div_lt_iff_lt_mul (Nat.two_pow_pos _)).2 this
end
def bes (i:Nat) (H:Nat):List (Nat×Nat):=(List.range H).map fun h=>(h,sb (i / 2^h))
theorem bes_len (i H:Nat):(bes i H).length=H:=by simp [bes]
theorem bes_succ (i H:Nat):bes i (H+1)=bes i H++[(H,sb (i / 2^H))]:=by simp [bes,List.range_succ]
theorem half_next (i h:Nat):i / 2^h / 2=i / 2^(h+1):=by rw [Nat.div_div_eq_div_mul,← Nat.pow_succ]
theorem bes_in {i H:Nat} : ∀ b∈bes i H,(b.2+1) * 2^b.1≤(i / 2^H+1) * 2^H:=by
 intro b hb
 obtain ⟨h,hh,rfl⟩:=List.mem_map.1 hb
 have hh:=List.mem_range.1 hh
 obtain ⟨d,rfl⟩ : ∃ d,H=h+1+d:=⟨H - h - 1,by omega⟩
 have h1:(sb (i / 2^h)+1)≤(i / 2^(h+1)+1) * 2:=by
  rw [← half_next]
  generalize i / 2^h=q
  unfold sb
  split <;> omega
 have h2:(sb (i / 2^h)+1) * 2^h≤(i / 2^(h+1)+1) * 2^(h+1):=by
  rw [Nat.pow_succ,← Nat.mul_assoc,Nat.mul_right_comm]
  exact Nat.mul_le_mul_right _ (by rw [← Nat.pow_succ]; exact h1)
 refine Nat.le_trans h2 ?_
 have h3:i / 2^(h+1)+1≤(i / 2^(h+1+d)+1) * 2^d:=by
  have e:i / 2^(h+1+d)=i / 2^(h+1) / 2^d:=by rw [Nat.div_div_eq_div_mul,← Nat.pow_add]
  rw [e]
  exact Nat.lt_mul_of_div_lt (Nat.lt_succ_self _) (Nat.two_pow_pos d)
 calc (i / 2^(h+1)+1) * 2^(h+1)≤(i / 2^(h+1+d)+1) * 2^d * 2^(h+1):=Nat.mul_le_mul_right _ h3
  _=(i / 2^(h+1+d)+1) * 2^(h+1+d):=by rw [Nat.mul_assoc,← Nat.pow_add,Nat.add_comm d]
def wyB (i H:Nat) (A B:List (Nat×Nat)):List (Nat×Nat):=bes i H++(A++B)
theorem wyB_len (i H:Nat) (A B:List (Nat×Nat)):(wyB i H A B).length=H+(A.length+B.length):=by simp [wyB,bes_len]
theorem Wy.inn {n i H:Nat} {A B:List (Nat×Nat)} (h:Wy n i A H B) (hn:n≤2^40) : ∀ b∈wyB i H A B,(b.2+1) * 2^b.1≤n:=by
 have hall:=dn_in n hn
 rw [h.all] at hall
 intro b hb
 rw [wyB,List.mem_append,List.mem_append] at hb
 rcases hb with hb | hb | hb
 ·exact Nat.le_trans (bes_in b hb) (hall (H,i / 2^H) (by simp))
 ·exact hall b (by simp [hb])
 ·exact hall b (by simp [hb])
theorem rs_app (c:Nat) (x:ByteArray) : ∀ (D:List ByteArray) (q:Nat) (d:ByteArray),rs c q d (D++[x])=dg c (stT (q / 2^D.length) (rs c q d D) x)
 | [],q,d=>by simp [rs]
 | y::r,q,d=>by
  rw [List.cons_append,rs,rs_app c x r,rs,List.length_cons,Nat.pow_succ,Nat.div_div_eq_div_mul,Nat.mul_comm 2]
theorem rs_size {c:Nat} (hc:c≤32) : ∀ (D:List ByteArray) (q:Nat) (d:ByteArray),d.size=c→(rs c q d D).size=c
 | [],_,_,h=>h
 | y::r,q,d,_=>by
  rw [rs]
  exact rs_size hc r _ _ (dg_size hc _)
theorem rs_nd (c:Nat) (L:List ByteArray) (i:Nat) : ∀ H,rs c i (nd c L 0 i) ((bes i H).map fun b=>nd c L b.1 b.2)=nd c L H (i / 2^H)
 | 0=>by simp [bes,rs]
 | H+1=>by
  have ih:=rs_nd c L i H
  rw [bes_succ,List.map_append,List.map_cons,List.map_nil,rs_app,ih,List.length_map,bes_len,← half_next]
  show dg c (stT (i / 2^H) (nd c L H (i / 2^H)) (nd c L H (sb (i / 2^H))))=dg c (nodeT (nd c L H (2 * (i / 2^H / 2))) (nd c L H (2 * (i / 2^H / 2)+1)))
  generalize i / 2^H=q
  unfold stT sb
  by_cases h:q % 2=1
  ·rw [if_pos h,if_pos h,show 2 * (q / 2)=q - 1 by omega,show q - 1+1=q by omega]
  ·rw [if_neg h,if_neg h,show 2 * (q / 2)=q by omega]
def pkP (c i:Nat) (a H:Nat) (D:List ByteArray) (x:ByteArray):List ByteArray:=(D.drop H).take a++rs c i (dg c (leafT x)) (D.take H)::(D.drop H).drop a
def rtP (c n i a H:Nat) (D:List ByteArray) (x:ByteArray):ByteArray:=dg c (rootT n (bagL c (pkP c i a H D x)))
def dgP (c:Nat) (L:List ByteArray) (i H:Nat) (A B:List (Nat×Nat)):List ByteArray:=(wyB i H A B).map fun b=>nd c L b.1 b.2
theorem dgP_len (c:Nat) (L:List ByteArray) (i H:Nat) (A B:List (Nat×Nat)):(dgP c L i H A B).length=H+(A.length+B.length):=by rw [dgP,List.length_map,wyB_len]
theorem dgP_size {c:Nat} (hc:c≤32) (L:List ByteArray) (i H:Nat) (A B:List (Nat×Nat)) : ∀ s∈dgP c L i H A B,s.size=c:=by
 intro s hs
 obtain ⟨b,_,rfl⟩:=List.mem_map.1 hs
 exact nd_size hc _ _ _
theorem pk_complete {c n i H:Nat} {A B:List (Nat×Nat)} {L:List ByteArray} (h:Wy n i A H B) (hn:n≤2^40) (hL:n≤L.length):pkP c i A.length H (dgP c L i H A B) (L.getD i ByteArray.empty)=pks c (L.take n) 41:=by
 have hp:=(cov_peaks c L n hL hn).1
 rw [Cv.cov_zero n hn,h.all,List.map_append,List.map_cons] at hp
 rw [← hp,pkP]
 have e1:(dgP c L i H A B).take H=(bes i H).map fun b=>nd c L b.1 b.2:=by
  rw [dgP,wyB,List.map_append,List.take_left' (by rw [List.length_map,bes_len])]
 have e2:(dgP c L i H A B).drop H=(A++B).map fun b=>nd c L b.1 b.2:=by
  rw [dgP,wyB,List.map_append,List.drop_left' (by rw [List.length_map,bes_len])]
 rw [e1,e2,List.map_append,List.take_left' (by rw [List.length_map]),List.drop_left' (by rw [List.length_map])]
 have:=rs_nd c L i H
 rw [show nd c L 0 i=dg c (leafT (L.getD i ByteArray.empty)) from rfl] at this
 rw [this]
end Go.Proofs.YtipcenbndhnnhaaGreatDoor
namespace Go.Proofs.YtipcenbndhnnhaaGreatDoor
open Go.RowKit
open Cv (RdC Ap)
attribute [local go_sem ↓] Go.wp_at_zero Go.wp_at_succ
theorem cS_len (l:List ByteArray):(cS l).length=l.length * 1:=by simp [cS]
theorem cS_app (l m:List ByteArray):cS (l++m)=cS l++cS m:=List.map_append
theorem cS_one (l:List ByteArray) : ∀ u∈cS l,u.oneCell'=true:=by
 intro u hu; obtain ⟨y,_,rfl⟩:=List.mem_map.1 hu; rfl
theorem rds_rdc {w:World} {ao:Option Addr} {b off len cap:Nat} {ss:List ByteArray} (h:RdS w ao b off len ss) (hn:ao=none→cap=0):RdC w (.slice ao len cap) len (cS ss):=by
 refine ⟨ao,cap,rfl,fun e=>⟨?_,hn e⟩,fun ad ha j c hj => ?_⟩
 ·apply Classical.byContradiction
  intro h0
  have:=h.ptr (by omega)
  rw [e] at this
  cases this
 ·have hj':j<len:=by have:=(List.getElem?_eq_some_iff.1 hj).1; rw [List.length_map,h.hl] at this; exact this
  have:=h.ptr (by omega)
  rw [ha] at this
  cases this
  rw [Addr.add_mid]
  exact h.rng j c hj
set_option maxRecDepth 100000 in
theorem grow_S (w:World) (n:Nat) (hn:n≤8796093022208) :
  Calls Tryz.prog 159 #[.slice none 0 0,.int .i64 (n:Int)] w fun e w' => ∃ v,e = .returned v∧w'.ownsRow w.heap.size 9 1 v 0 []∧Below w.heap.size w w':=by
 obtain ⟨i0,hi,hz0,hz1,hz2⟩:=info_parts Tryz.infoS
 by_cases h0:n=0
 ·subst h0
  clear hn
  go_enter Tryz.func159,Tryz.ntmps159
  go_wp2
  go_ret
  exact ⟨_,rfl,World.ownsRow_nil _ _ _ _,Below.refl _ _⟩
 ·have hr:=fun ty=>Lib.run_append_nil_zeros (P:=Tryz.prog) w 22 3 ty 9 i0 _ .i64 .i64 Tryz.underlying22 Tryz.underlying3 hi hz0 n (by omega) (by rw [hz1]; decide) (by omega) (by rw [hz2]; omega)
  obtain ⟨G,hG⟩ : ∃ G,grownCap w n 0 9=G:=⟨_,rfl⟩
  have hge:=grownCap_ge w n 0 9
  have hle:=grownCap_le_maxLen w n 0 9 (by unfold maxLen; omega)
  rw [hG] at hge hle hr
  have HO:Hid ((w.drew.alloc (.cells (Builtin.zeroCells (Value.cells (.string ByteArray.empty)) n++Builtin.zeroCells (Value.cells (.string ByteArray.empty)) (G - n)) 9)).ownsRow w.heap.size 9 1 (.slice (some ⟨w.heap.size,0,none⟩) 0 G) 0 []):=by
   refine ⟨rfl,.inr ⟨w.heap.size,G,_,rfl,Nat.le_refl _,heap_alloc_new w.drew _,Nat.zero_le _,hle,?_,by simp⟩⟩
   rw [Array.size_append,size_zeroCells,size_zeroCells,show (Value.cells (.string ByteArray.empty)).size=1 from rfl,← Nat.add_mul]
   congr 1
   omega
  have hG63:G≤9223372036854775807:=by unfold maxLen at hle; omega
  have hn0:(0:Int)<(n:Int):=by omega
  have hnz : ¬ (n:Int)<0:=by omega
  clear hG hge hle hi hz0 hz1 hz2 h0
  go_enter Tryz.func159,Tryz.ntmps159
  go_wp2_with (at_builtin; refine Lib.wpList_append_run _ rfl _ _ _ _ rfl _ _ rfl rfl _ _ (hr _) ?_)
  go_ret
  exact ⟨_,rfl,HO.out,below_drew_alloc w _⟩
structure CatS (w:World) (g0:Nat) (us:List Value) (Ls:List (List (ByteArray))):Prop where
 len:us.length=Ls.length
 cell : ∀ j,j<us.length→w.cell? ⟨g0,j,none⟩=some (us.getD j dn)
 rd : ∀ j,j<us.length→RdC w (us.getD j dn) (Ls.getD j []).length (cS (Ls.getD j []))
theorem CatS.next {w W:World} {g0:Nat} {us:List Value} {Ls:List (List (ByteArray))} (h:CatS w g0 us Ls) (hb:Below w.heap.size w W):CatS W g0 us Ls :=
 ⟨h.len,fun j hj=>(hb.cell (World.block_lt_of_cell? w _ (h.cell j hj))).trans (h.cell j hj),fun j hj=>Cv.rdc_keep (h.rd j hj) hb⟩
set_option maxRecDepth 100000 in
set_option maxHeartbeats 1000000 in
theorem concat_S (w:World) (g0 c0:Nat) (us:List Value) (Ls:List (List (ByteArray))) (h:CatS w g0 us Ls) (hu:us.length≤1000) (hm:Ls.flatten.length≤8796093022208) (cl:List (ByteArray)) (hcl:Ls.flatten=cl) :
  Calls Tryz.prog 118 #[.slice (some ⟨g0,0,none⟩) us.length c0] w fun e w' => ∃ v,e = .returned v∧w'.ownsRow w.heap.size 9 1 v cl.length (cS cl)∧Below w.heap.size w w':=by
 obtain ⟨i0,hi,hz0,hz1,hz2⟩:=info_parts Tryz.infoS
 have HC:Hid (∀ W,Below w.heap.size w W→CatS W g0 us Ls):=fun W hb=>h.next hb
 have HX:Hid (us.length=Ls.length∧us.length≤1000∧Ls.flatten.length≤8796093022208∧Ls.flatten=cl):=⟨h.len,hu,hm,hcl⟩
 have h63:(us.length:Int)≤1000:=by omega
 have hb0:=Below.refl w.heap.size w
 have HI:Hid (Tryz.prog.info? 9=some i0∧i0.zero=some (.string ByteArray.empty)∧i0.size=1∧i0.bytes=16):=⟨hi,hz0,hz1,hz2⟩
 clear h hu hm hcl hi hz0 hz1 hz2
 go_enter Tryz.func118,Tryz.ntmps118
 go_wp2
 go_loopg [3,11] us.length (fun g s i wr => ∃ j:Nat,j≤us.length∧g=us.length - j∧i = .int .i64 (j:Int)∧s = .int .i64 ((Ls.take j).flatten.length:Int)∧Below w.heap.size w wr)
 case atStart =>
  go_light
  exact ⟨0,Nat.zero_le _,rfl,rfl,rfl,hb0⟩
 case round =>
  clear hb0
  obtain ⟨j,hj,rfl,rfl,rfl,hb⟩:=hrel
  by_cases hlt:j<us.length
  ·have hz:(j:Int)<(us.length:Int):=by omega
   have hz0:(0:Int)≤(j:Int):=Int.natCast_nonneg _
   have cj:=(HC.out wr hb).cell j hlt
   obtain ⟨ao,cap,hv,_,_⟩:=(HC.out wr hb).rd j hlt
   rw [hv] at cj
   obtain ⟨m,hmm⟩ : ∃ m,(Ls.getD j []).length=m:=⟨_,rfl⟩
   rw [hmm] at cj
   have hs:(Ls.take (j+1)).flatten.length=(Ls.take j).flatten.length+m:=by
    rw [take_succ_getD [] Ls j (by have:=HX.out.1; omega),List.flatten_append,List.length_append,List.flatten_singleton,hmm]
   have hle:=catl_le Ls (j+1)
   obtain ⟨a,ha⟩ : ∃ a,(Ls.take j).flatten.length=a:=⟨_,rfl⟩
   rw [ha] at hs ⊢
   have hax:a+m≤8796093022208:=by have:=HX.out.2.2.1; omega
   have e1:IntKind.i64.wrap ((a:Int)+(m:Int))=(a:Int)+(m:Int):=by rw [IntKind.wrap_i64]; omega
   have hpos : ¬ (a:Int)+(m:Int)<0:=by omega
   have HS:Hid ((a:Int)+(m:Int)=((Ls.take (j+1)).flatten.length:Nat)):=by show _=_; rw [hs]; omega
   clear hs hle ha hmm hv hax
   go_wp2
   go_roundg (us.length - (j+1))
   case rel =>
    go_light
    exact ⟨j+1,by omega,rfl,by go_num,by rw [HS.out],hb⟩
   case measure=>go_light; omega
  ·obtain rfl:j=us.length:=by omega
   have hz : ¬ ((us.length:Int)<(us.length:Int)):=by omega
   have ha:(Ls.take us.length).flatten.length=Ls.flatten.length:=by rw [HX.out.1,List.take_length]
   rw [ha]
   have HG:Hid (∀ W,Calls Tryz.prog 159 #[.slice none 0 0,.int .i64 (Ls.flatten.length:Int)] W fun e w' => ∃ v,e = .returned v∧w'.ownsRow W.heap.size 9 1 v 0 []∧Below W.heap.size W w'):=fun W=>grow_S W _ HX.out.2.2.1
   obtain ⟨q,hq⟩ : ∃ q,Ls.flatten.length=q:=⟨_,rfl⟩
   rw [hq] at HG ⊢
   clear ha hlt hj hq
   go_wp2_with (go_at_call 159; with_reducible refine (HG.out _).mono ?_; rintro e w1 ⟨v,rfl,ho,hb1⟩)
   have hb2:=bnext hb hb1
   have ho2:w1.ownsRow w.heap.size 9 1 v 0 []:=ho.mono hb.size
   clear hb hb1 ho
   go_wp2
   go_loopg [6,27] us.length (fun g v i wr => ∃ j:Nat,j≤us.length∧g=us.length - j∧i = .int .i64 (j:Int)∧wr.ownsRow w.heap.size 9 1 v (Ls.take j).flatten.length (cS (Ls.take j).flatten)∧Below w.heap.size w wr)
   case atStart =>
    go_light
    exact ⟨0,Nat.zero_le _,rfl,rfl,ho2,hb2⟩
   case round =>
    clear hb2 ho2
    obtain ⟨j,hj,rfl,rfl,ho,hb⟩:=hrel
    by_cases hlt:j<us.length
    ·have hz:(j:Int)<(us.length:Int):=by omega
     have hz0:(0:Int)≤(j:Int):=Int.natCast_nonneg _
     have cj:=(HC.out wr hb).cell j hlt
     have rj:=(HC.out wr hb).rd j hlt
     obtain ⟨u,hu⟩ : ∃ u,us.getD j dn=u:=⟨_,rfl⟩
     obtain ⟨l,hl⟩ : ∃ l,Ls.getD j []=l:=⟨_,rfl⟩
     rw [hu] at cj rj
     rw [hl] at rj
     have ht:(Ls.take (j+1)).flatten=(Ls.take j).flatten++l:=by
      rw [take_succ_getD [] Ls j (by have:=HX.out.1; omega),List.flatten_append,List.flatten_singleton,hl]
     have hle:=catl_le Ls (j+1)
     obtain ⟨a,ha⟩ : ∃ a,(Ls.take j).flatten=a:=⟨_,rfl⟩
     rw [ha] at ht ho
     rw [ht,List.length_append] at hle
     have HS:Hid ((Ls.take (j+1)).flatten=a++l∧a.length+l.length≤8796093022208∧RdC wr u l.length (cS l)∧wr.ownsRow w.heap.size 9 1 u6 a.length (cS a)∧w.heap.size≤wr.heap.size):=⟨ht,by have:=HX.out.2.2.1; omega,rj,ho,hb.size⟩
     clear ht hle ha hl hu ho rj
     go_wp2_with (at_builtin; refine Cv.wpList_append_ap _ rfl _ _ _ rfl w.heap.size 9 i0 (.string ByteArray.empty) 1 16 Tryz.underlying22 HI.out.1 HI.out.2.1 HI.out.2.2.1 HI.out.2.2.2 rfl (by decide) _ a.length (cS a) rfl HS.out.2.2.2.1 _ l.length (cS l) rfl HS.out.2.2.1 (cS_len l) (cS_one l) ?c1 ?c2 HS.out.2.2.2.2 ?_)
     case c1=>have:=HS.out.2.1; unfold maxLen; omega
     case c2=>have:=HS.out.2.1; omega
     intro v' w1 hap
     have HY:Hid (w1.ownsRow w.heap.size 9 1 v' (a++l).length (cS (a++l))∧Below w.heap.size w w1):=by
      refine ⟨?_,(Cv.ownB_step0 hb HS.out.2.2.2.2 HS.out.2.2.2.1 hap.grown).1⟩
      rw [List.length_append,cS_app]; exact hap.own
     clear hap hb
     go_wp2
     go_roundg (us.length - (j+1))
     case rel =>
      go_light
      refine ⟨j+1,by omega,rfl,by go_num,?_,HY.out.2⟩
      rw [HS.out.1]; exact HY.out.1
     case measure=>go_light; omega
    ·obtain rfl:j=us.length:=by omega
     have hz : ¬ ((us.length:Int)<(us.length:Int)):=by omega
     rw [HX.out.1,List.take_length,HX.out.2.2.2] at ho
     clear hlt hj
     go_wp2
     go_ret
     exact ⟨_,rfl,ho,hb⟩
end Go.Proofs.YtipcenbndhnnhaaGreatDoor
namespace Go.Proofs.YtipcenbndhnnhaaGreatDoor
open Go.RowKit
open Cv (RdC zl)
attribute [local go_sem ↓] Go.wp_at_zero Go.wp_at_succ
theorem getD_zl (M:List (Nat×Nat)) (j:Nat) (hj:j<M.length):(zl M).getD j (0,0)=(((M.getD j (0,0)).1:Int),(M.getD j (0,0)).2):=by
 unfold zl
 rw [List.getD_eq_getElem?_getD,List.getD_eq_getElem?_getD,List.getElem?_map,List.getElem?_eq_getElem hj]
 rfl
theorem wy_find {n i H:Nat} {A B:List (Nat×Nat)} (hw:Wy n i A H B) {j h:Nat} (hj:j<(Cv.dnL 41 0 n).length) (he:(Cv.dnL 41 0 n).getD j (0,0)=(h,i / 2^h)):j=A.length∧h=H:=by
 rw [hw.all] at hj he
 rw [List.getD_eq_getElem?_getD] at he
 rcases Nat.lt_trichotomy j A.length with hlt | heq | hgt
 ·rw [List.getElem?_append_left hlt,List.getElem?_eq_getElem hlt] at he
  have:=hw.no_left (List.getElem_mem hlt)
  rw [show A[j]=(h,i / 2^h) from he] at this
  exact absurd this (Nat.lt_irrefl _)
 ·subst heq
  rw [List.getElem?_append_right (Nat.le_refl _),Nat.sub_self] at he
  exact ⟨rfl,(congrArg Prod.fst (show (H,i / 2^H)=(h,i / 2^h) from he)).symm⟩
 ·rw [List.length_append,List.length_cons] at hj
  obtain ⟨t,rfl⟩ : ∃ t,j=A.length+(t+1):=⟨j - A.length - 1,by omega⟩
  have ht:t<B.length:=by omega
  rw [List.getElem?_append_right (by omega),show A.length+(t+1) - A.length=t+1 by omega,List.getElem?_cons_succ,List.getElem?_eq_getElem ht] at he
  have:=hw.no_right (List.getElem_mem ht)
  rw [show B[t]=(h,i / 2^h) from he] at this
  exact absurd this (Nat.lt_irrefl _)
theorem wy_at {n i H:Nat} {A B:List (Nat×Nat)} (hw:Wy n i A H B):A.length<(Cv.dnL 41 0 n).length∧(Cv.dnL 41 0 n).getD A.length (0,0)=(H,i / 2^H):=by
 rw [hw.all]
 refine ⟨by simp,?_⟩
 rw [List.getD_eq_getElem?_getD,List.getElem?_append_right (Nat.le_refl _),Nat.sub_self]
 rfl
end Go.Proofs.YtipcenbndhnnhaaGreatDoor
namespace Go.Proofs.YtipcenbndhnnhaaGreatDoor
open Go.RowKit
open Cv (RdC zl cU)
attribute [local go_sem ↓] Go.wp_at_zero Go.wp_at_succ
theorem rdc_slice {w:World} {u:Value} {m:Nat} {news:List Value} (h:RdC w u m news) : ∃ ao cap,u = .slice ao m cap:=by
 obtain ⟨ao,cap,e,_⟩:=h
 exact ⟨ao,cap,e⟩
section
variable {w W:World} {s:Nat} {a b c d e f:Value}
end
section
variable {q:Nat} {w w1 w2:World}
end
end Go.Proofs.YtipcenbndhnnhaaGreatDoor
namespace Go.Proofs.YtipcenbndhnnhaaGreatDoor
open Go.RowKit
attribute [local go_sem ↓] Go.wp_at_zero Go.wp_at_succ
theorem clm_ixs (T:List ByteArray) (S:List Nat):ixs (clm T S S.length)=S:=by
 rw [clm,List.take_of_length_le (Nat.le_refl _)]
 unfold ixs
 rw [List.map_map]
 exact List.map_id' S
theorem clm_vls (T:List ByteArray) (S:List Nat):vls (clm T S S.length)=S.map fun x=>T.getD x ByteArray.empty:=by
 rw [clm,List.take_of_length_le (Nat.le_refl _)]
 unfold vls
 rw [List.map_map]; rfl
structure LF (w0 W:World) (q q2:Nat) (pv:Value) (xb xo xn xc:Nat) (x:ByteArray) (n:Nat) (d:ByteArray) (er:Int) (L:Nat→Bool) (a:Act) (w:World):Prop where
 sz:a.tmps.size=21
 df:a.defers=[]
 i1:a.tmps.getD 1 undef = .slice (some ⟨xb,xo,none⟩) xn xc
 i2:a.tmps.getD 2 undef = .pointer (some ⟨q2,0,none⟩)
 i4:a.tmps.getD 4 undef = .pointer (some ⟨q,0,none⟩)
 b1:L 7=false→Below W.heap.size W w
 b2:Below w0.heap.size w0 w
 a0:L 0=true→a.tmps.getD 9 undef=pv
 a1:L 1=true→a.tmps.getD 10 undef = .slice (some ⟨xb,xo,none⟩) xn xc
 a2:L 2=true→a.tmps.getD 11 undef = .pointer (some ⟨xb,xo,none⟩)
 a3:L 3=true→a.tmps.getD 12 undef = .string x
 a4:L 4=true→a.tmps.getD 13 undef = .tuple #[.agg #[.int .u64 (n:Int),.string d],.int .i64 er]
 a5:L 5=true→a.tmps.getD 14 undef = .agg #[.int .u64 (n:Int),.string d]
 a6:L 6=true→a.tmps.getD 15 undef = .int .i64 er
 a7:L 7=true→Rh w q n d
 a8:L 8=true→a.tmps.getD 5 undef = .int .i64 er
section
variable {w0 W:World} {q q2:Nat} {pv:Value} {xb xo xn xc:Nat} {x:ByteArray} {n:Nat} {d:ByteArray} {er:Int} {Q:Exit→Act→World→Prop} {ops:List Oper} {ty:TypeId} {ps:String} {af:Array Edge}
set_option maxRecDepth 100000 in
theorem lf_0 (hds:dep ops 7 0=true) (h6 : ∀ w,Below W.heap.size W w → ∃ v0 v1 v2 v3 v4 v5,pv = .agg #[v0,v1,v2,v3,v4,v5]∧Six w q2 v0 v1 v2 v3 v4 v5):StepJ Tryz.prog Q ops (LF w0 W q q2 pv xb xo xn xc x n d er) 0 { dst:=some 9,op:=Op.load 38 (Operand.tmp 2),type:=ty,pos:=ps,after:=af,guard:=none } := by
 intro L a w K hI hj hcl hdep hK
 have hs:9<a.tmps.size:=by rw [hI.sz]; decide
 have h8:=not_yet hcl hj hds
 have hB:=hI.b1 h8
 have t2:=hI.i2
 obtain ⟨v0,v1,v2,v3,v4,v5,rfl,hx⟩:=h6 w hB
 obtain ⟨m0,m1,m2,m3,m4,m5⟩:=hx.cells
 show Oper.wp _ _ a w K _
 go_simp
 exact hK _ _ { sz:=(by simp [Act.put,hI.sz]),df:=hI.df,i1:=(by rw [put_at a 9 1 _ hs,if_neg (by decide)]; exact hI.i1),i2:=(by rw [put_at a 9 2 _ hs,if_neg (by decide)]; exact hI.i2),i4:=(by rw [put_at a 9 4 _ hs,if_neg (by decide)]; exact hI.i4),b1:=(fun h=>hI.b1 h),b2:=(hI.b2),a0:=(fun _=>by rw [put_at a 9 9 _ hs,if_pos rfl]),a1:=(fun h=>by rw [put_at a 9 10 _ hs,if_neg (by decide)]; exact hI.a1 h),a2:=(fun h=>by rw [put_at a 9 11 _ hs,if_neg (by decide)]; exact hI.a2 h),a3:=(fun h=>by rw [put_at a 9 12 _ hs,if_neg (by decide)]; exact hI.a3 h),a4:=(fun h=>by rw [put_at a 9 13 _ hs,if_neg (by decide)]; exact hI.a4 h),a5:=(fun h=>by rw [put_at a 9 14 _ hs,if_neg (by decide)]; exact hI.a5 h),a6:=(fun h=>by rw [put_at a 9 15 _ hs,if_neg (by decide)]; exact hI.a6 h),a7:=(fun h=>hI.a7 h),a8:=(fun h=>by rw [put_at a 9 5 _ hs,if_neg (by decide)]; exact hI.a8 h) }
set_option maxRecDepth 100000 in
theorem lf_1  : StepJ Tryz.prog Q ops (LF w0 W q q2 pv xb xo xn xc x n d er) 1 { dst:=some 10,op:=Op.move (Operand.tmp 1),type:=ty,pos:=ps,after:=af,guard:=none } := by
 intro L a w K hI hj hcl hdep hK
 have hs:10<a.tmps.size:=by rw [hI.sz]; decide
 have t1:=hI.i1
 show Oper.wp _ _ a w K _
 go_simp
 exact hK _ _ { sz:=(by simp [Act.put,hI.sz]),df:=hI.df,i1:=(by rw [put_at a 10 1 _ hs,if_neg (by decide)]; exact hI.i1),i2:=(by rw [put_at a 10 2 _ hs,if_neg (by decide)]; exact hI.i2),i4:=(by rw [put_at a 10 4 _ hs,if_neg (by decide)]; exact hI.i4),b1:=(fun h=>hI.b1 h),b2:=(hI.b2),a0:=(fun h=>by rw [put_at a 10 9 _ hs,if_neg (by decide)]; exact hI.a0 h),a1:=(fun _=>by rw [put_at a 10 10 _ hs,if_pos rfl]),a2:=(fun h=>by rw [put_at a 10 11 _ hs,if_neg (by decide)]; exact hI.a2 h),a3:=(fun h=>by rw [put_at a 10 12 _ hs,if_neg (by decide)]; exact hI.a3 h),a4:=(fun h=>by rw [put_at a 10 13 _ hs,if_neg (by decide)]; exact hI.a4 h),a5:=(fun h=>by rw [put_at a 10 14 _ hs,if_neg (by decide)]; exact hI.a5 h),a6:=(fun h=>by rw [put_at a 10 15 _ hs,if_neg (by decide)]; exact hI.a6 h),a7:=(fun h=>hI.a7 h),a8:=(fun h=>by rw [put_at a 10 5 _ hs,if_neg (by decide)]; exact hI.a8 h) }
set_option maxRecDepth 100000 in
theorem lf_2 (d1:(af.toList.any fun e=>e.on == 1 && Region.binds .any e)=true) (hn:0<xn):StepJ Tryz.prog Q ops (LF w0 W q q2 pv xb xo xn xc x n d er) 2 { dst:=some 11,op:=Op.indexAddr 22 (Operand.tmp 10) (Operand.const (.int .i64 0)),type:=ty,pos:=ps,after:=af,guard:=none } := by
 intro L a w K hI hj hcl hdep hK
 have hs:11<a.tmps.size:=by rw [hI.sz]; decide
 have t10:=hI.a1 (hdep 1 d1)
 have hz:(0:Int)<(xn:Int):=by omega
 show Oper.wp _ _ a w K _
 go_simp
 exact hK _ _ { sz:=(by simp [Act.put,hI.sz]),df:=hI.df,i1:=(by rw [put_at a 11 1 _ hs,if_neg (by decide)]; exact hI.i1),i2:=(by rw [put_at a 11 2 _ hs,if_neg (by decide)]; exact hI.i2),i4:=(by rw [put_at a 11 4 _ hs,if_neg (by decide)]; exact hI.i4),b1:=(fun h=>hI.b1 h),b2:=(hI.b2),a0:=(fun h=>by rw [put_at a 11 9 _ hs,if_neg (by decide)]; exact hI.a0 h),a1:=(fun h=>by rw [put_at a 11 10 _ hs,if_neg (by decide)]; exact hI.a1 h),a2:=(fun _=>by rw [put_at a 11 11 _ hs,if_pos rfl]),a3:=(fun h=>by rw [put_at a 11 12 _ hs,if_neg (by decide)]; exact hI.a3 h),a4:=(fun h=>by rw [put_at a 11 13 _ hs,if_neg (by decide)]; exact hI.a4 h),a5:=(fun h=>by rw [put_at a 11 14 _ hs,if_neg (by decide)]; exact hI.a5 h),a6:=(fun h=>by rw [put_at a 11 15 _ hs,if_neg (by decide)]; exact hI.a6 h),a7:=(fun h=>hI.a7 h),a8:=(fun h=>by rw [put_at a 11 5 _ hs,if_neg (by decide)]; exact hI.a8 h) }
set_option maxRecDepth 100000 in
theorem lf_3 (d2:(af.toList.any fun e=>e.on == 2 && Region.binds .any e)=true) (hds:dep ops 7 3=true) (hc : ∀ w,Below W.heap.size W w→w.cell? ⟨xb,xo,none⟩=some (.string x)):StepJ Tryz.prog Q ops (LF w0 W q q2 pv xb xo xn xc x n d er) 3 { dst:=some 12,op:=Op.load 9 (Operand.tmp 11),type:=ty,pos:=ps,after:=af,guard:=none } := by
 intro L a w K hI hj hcl hdep hK
 have hs:12<a.tmps.size:=by rw [hI.sz]; decide
 have h8:=not_yet hcl hj hds
 have hB:=hI.b1 h8
 have t11:=hI.a2 (hdep 2 d2)
 have hcx:=hc w hB
 show Oper.wp _ _ a w K _
 go_simp
 exact hK _ _ { sz:=(by simp [Act.put,hI.sz]),df:=hI.df,i1:=(by rw [put_at a 12 1 _ hs,if_neg (by decide)]; exact hI.i1),i2:=(by rw [put_at a 12 2 _ hs,if_neg (by decide)]; exact hI.i2),i4:=(by rw [put_at a 12 4 _ hs,if_neg (by decide)]; exact hI.i4),b1:=(fun h=>hI.b1 h),b2:=(hI.b2),a0:=(fun h=>by rw [put_at a 12 9 _ hs,if_neg (by decide)]; exact hI.a0 h),a1:=(fun h=>by rw [put_at a 12 10 _ hs,if_neg (by decide)]; exact hI.a1 h),a2:=(fun h=>by rw [put_at a 12 11 _ hs,if_neg (by decide)]; exact hI.a2 h),a3:=(fun _=>by rw [put_at a 12 12 _ hs,if_pos rfl]),a4:=(fun h=>by rw [put_at a 12 13 _ hs,if_neg (by decide)]; exact hI.a4 h),a5:=(fun h=>by rw [put_at a 12 14 _ hs,if_neg (by decide)]; exact hI.a5 h),a6:=(fun h=>by rw [put_at a 12 15 _ hs,if_neg (by decide)]; exact hI.a6 h),a7:=(fun h=>hI.a7 h),a8:=(fun h=>by rw [put_at a 12 5 _ hs,if_neg (by decide)]; exact hI.a8 h) }
set_option maxRecDepth 100000 in
theorem lf_4 (d0:(af.toList.any fun e=>e.on == 0 && Region.binds .any e)=true) (d3:(af.toList.any fun e=>e.on == 3 && Region.binds .any e)=true) (hds:dep ops 7 4=true) (hR : ∀ w,Below W.heap.size W w→Calls Tryz.prog 72 #[pv,.string x] w fun e w'=>e = .returned (.tuple #[.agg #[.int .u64 (n:Int),.string d],.int .i64 er])∧Below w.heap.size w w'):StepJ Tryz.prog Q ops (LF w0 W q q2 pv xb xo xn xc x n d er) 4 { dst:=some 13,op:=Op.call { callee:=Callee.value (Operand.func 72),args:=#[Operand.tmp 9,Operand.tmp 12],argTypes:=#[38,9] },type:=ty,pos:=ps,after:=af,guard:=none } := by
 intro L a w K hI hj hcl hdep hK
 have hs:13<a.tmps.size:=by rw [hI.sz]; decide
 have h8:=not_yet hcl hj hds
 have hB:=hI.b1 h8
 have t9:=hI.a0 (hdep 0 d0)
 have t12:=hI.a3 (hdep 3 d3)
 show Oper.wp _ _ a w K _
 go_simp
 refine (hR w hB).mono ?_
 rintro e w' ⟨rfl,hb⟩
 exact hK _ _ { sz:=(by simp [Act.put,hI.sz]),df:=hI.df,i1:=(by rw [put_at a 13 1 _ hs,if_neg (by decide)]; exact hI.i1),i2:=(by rw [put_at a 13 2 _ hs,if_neg (by decide)]; exact hI.i2),i4:=(by rw [put_at a 13 4 _ hs,if_neg (by decide)]; exact hI.i4),b1:=(fun _=>bnext hB hb),b2:=(bnext hI.b2 hb),a0:=(fun h=>by rw [put_at a 13 9 _ hs,if_neg (by decide)]; exact hI.a0 h),a1:=(fun h=>by rw [put_at a 13 10 _ hs,if_neg (by decide)]; exact hI.a1 h),a2:=(fun h=>by rw [put_at a 13 11 _ hs,if_neg (by decide)]; exact hI.a2 h),a3:=(fun h=>by rw [put_at a 13 12 _ hs,if_neg (by decide)]; exact hI.a3 h),a4:=(fun _=>by rw [put_at a 13 13 _ hs,if_pos rfl]),a5:=(fun h=>by rw [put_at a 13 14 _ hs,if_neg (by decide)]; exact hI.a5 h),a6:=(fun h=>by rw [put_at a 13 15 _ hs,if_neg (by decide)]; exact hI.a6 h),a7:=(fun h=>by rw [show (if (7:Nat)=4 then true else L 7)=L 7 from rfl,h8] at h; cases h),a8:=(fun h=>by rw [put_at a 13 5 _ hs,if_neg (by decide)]; exact hI.a8 h) }
set_option maxRecDepth 100000 in
theorem lf_5 (d4:(af.toList.any fun e=>e.on == 4 && Region.binds .any e)=true):StepJ Tryz.prog Q ops (LF w0 W q q2 pv xb xo xn xc x n d er) 5 { dst:=some 14,op:=Op.extract (Operand.tmp 13) 0,type:=ty,pos:=ps,after:=af,guard:=none } := by
 intro L a w K hI hj hcl hdep hK
 have hs:14<a.tmps.size:=by rw [hI.sz]; decide
 have t13:=hI.a4 (hdep 4 d4)
 show Oper.wp _ _ a w K _
 go_simp
 exact hK _ _ { sz:=(by simp [Act.put,hI.sz]),df:=hI.df,i1:=(by rw [put_at a 14 1 _ hs,if_neg (by decide)]; exact hI.i1),i2:=(by rw [put_at a 14 2 _ hs,if_neg (by decide)]; exact hI.i2),i4:=(by rw [put_at a 14 4 _ hs,if_neg (by decide)]; exact hI.i4),b1:=(fun h=>hI.b1 h),b2:=(hI.b2),a0:=(fun h=>by rw [put_at a 14 9 _ hs,if_neg (by decide)]; exact hI.a0 h),a1:=(fun h=>by rw [put_at a 14 10 _ hs,if_neg (by decide)]; exact hI.a1 h),a2:=(fun h=>by rw [put_at a 14 11 _ hs,if_neg (by decide)]; exact hI.a2 h),a3:=(fun h=>by rw [put_at a 14 12 _ hs,if_neg (by decide)]; exact hI.a3 h),a4:=(fun h=>by rw [put_at a 14 13 _ hs,if_neg (by decide)]; exact hI.a4 h),a5:=(fun _=>by rw [put_at a 14 14 _ hs,if_pos rfl]),a6:=(fun h=>by rw [put_at a 14 15 _ hs,if_neg (by decide)]; exact hI.a6 h),a7:=(fun h=>hI.a7 h),a8:=(fun h=>by rw [put_at a 14 5 _ hs,if_neg (by decide)]; exact hI.a8 h) }
set_option maxRecDepth 100000 in
theorem lf_6 (d4:(af.toList.any fun e=>e.on == 4 && Region.binds .any e)=true):StepJ Tryz.prog Q ops (LF w0 W q q2 pv xb xo xn xc x n d er) 6 { dst:=some 15,op:=Op.extract (Operand.tmp 13) 1,type:=ty,pos:=ps,after:=af,guard:=none } := by
 intro L a w K hI hj hcl hdep hK
 have hs:15<a.tmps.size:=by rw [hI.sz]; decide
 have t13:=hI.a4 (hdep 4 d4)
 show Oper.wp _ _ a w K _
 go_simp
 exact hK _ _ { sz:=(by simp [Act.put,hI.sz]),df:=hI.df,i1:=(by rw [put_at a 15 1 _ hs,if_neg (by decide)]; exact hI.i1),i2:=(by rw [put_at a 15 2 _ hs,if_neg (by decide)]; exact hI.i2),i4:=(by rw [put_at a 15 4 _ hs,if_neg (by decide)]; exact hI.i4),b1:=(fun h=>hI.b1 h),b2:=(hI.b2),a0:=(fun h=>by rw [put_at a 15 9 _ hs,if_neg (by decide)]; exact hI.a0 h),a1:=(fun h=>by rw [put_at a 15 10 _ hs,if_neg (by decide)]; exact hI.a1 h),a2:=(fun h=>by rw [put_at a 15 11 _ hs,if_neg (by decide)]; exact hI.a2 h),a3:=(fun h=>by rw [put_at a 15 12 _ hs,if_neg (by decide)]; exact hI.a3 h),a4:=(fun h=>by rw [put_at a 15 13 _ hs,if_neg (by decide)]; exact hI.a4 h),a5:=(fun h=>by rw [put_at a 15 14 _ hs,if_neg (by decide)]; exact hI.a5 h),a6:=(fun _=>by rw [put_at a 15 15 _ hs,if_pos rfl]),a7:=(fun h=>hI.a7 h),a8:=(fun h=>by rw [put_at a 15 5 _ hs,if_neg (by decide)]; exact hI.a8 h) }
set_option maxRecDepth 100000 in
theorem lf_7 (d5:(af.toList.any fun e=>e.on == 5 && Region.binds .any e)=true) (hq : ∀ w,Below W.heap.size W w → ∃ n9 d9,Rh w q n9 d9) (hq0:w0.heap.size≤q):StepJ Tryz.prog Q ops (LF w0 W q q2 pv xb xo xn xc x n d er) 7 { dst:=none,op:=Op.store 32 (Operand.tmp 4) (Operand.tmp 14),type:=ty,pos:=ps,after:=af,guard:=none } := by
 intro L a w K hI hj hcl hdep hK
 have t4:=hI.i4
 have t14:=hI.a5 (hdep 5 d5)
 have hB:=hI.b1 hj
 obtain ⟨n9,d9,g4⟩ : ∃ n9 d9,Rh w q n9 d9:=hq w hB
 obtain ⟨k0,k1⟩:=g4.cells
 have fz:=g4.fz
 have hch:=putR_ch w q n d
 have hpt:=g4.put n d
 unfold putR at hch hpt
 show Oper.wp _ _ a w K _
 go_simp
 exact hK undef _ { sz:=hI.sz,df:=hI.df,i1:=(by exact hI.i1),i2:=(by exact hI.i2),i4:=(by exact hI.i4),b1:=(fun h=>by cases h),b2:=(hI.b2.trans (hch.below (by rintro b rfl; exact hq0))),a0:=(fun h=>by exact hI.a0 h),a1:=(fun h=>by exact hI.a1 h),a2:=(fun h=>by exact hI.a2 h),a3:=(fun h=>by exact hI.a3 h),a4:=(fun h=>by exact hI.a4 h),a5:=(fun h=>by exact hI.a5 h),a6:=(fun h=>by exact hI.a6 h),a7:=(fun _=>hpt),a8:=(fun h=>by exact hI.a8 h) }
set_option maxRecDepth 100000 in
theorem lf_8 (d6:(af.toList.any fun e=>e.on == 6 && Region.binds .any e)=true):StepJ Tryz.prog Q ops (LF w0 W q q2 pv xb xo xn xc x n d er) 8 { dst:=some 5,op:=Op.assign (Operand.tmp 15),type:=ty,pos:=ps,after:=af,guard:=none } := by
 intro L a w K hI hj hcl hdep hK
 have hs:5<a.tmps.size:=by rw [hI.sz]; decide
 have t15:=hI.a6 (hdep 6 d6)
 show Oper.wp _ _ a w K _
 go_simp
 exact hK _ _ { sz:=(by simp [Act.put,hI.sz]),df:=hI.df,i1:=(by rw [put_at a 5 1 _ hs,if_neg (by decide)]; exact hI.i1),i2:=(by rw [put_at a 5 2 _ hs,if_neg (by decide)]; exact hI.i2),i4:=(by rw [put_at a 5 4 _ hs,if_neg (by decide)]; exact hI.i4),b1:=(fun h=>hI.b1 h),b2:=(hI.b2),a0:=(fun h=>by rw [put_at a 5 9 _ hs,if_neg (by decide)]; exact hI.a0 h),a1:=(fun h=>by rw [put_at a 5 10 _ hs,if_neg (by decide)]; exact hI.a1 h),a2:=(fun h=>by rw [put_at a 5 11 _ hs,if_neg (by decide)]; exact hI.a2 h),a3:=(fun h=>by rw [put_at a 5 12 _ hs,if_neg (by decide)]; exact hI.a3 h),a4:=(fun h=>by rw [put_at a 5 13 _ hs,if_neg (by decide)]; exact hI.a4 h),a5:=(fun h=>by rw [put_at a 5 14 _ hs,if_neg (by decide)]; exact hI.a5 h),a6:=(fun h=>by rw [put_at a 5 15 _ hs,if_neg (by decide)]; exact hI.a6 h),a7:=(fun h=>hI.a7 h),a8:=(fun _=>by rw [put_at a 5 5 _ hs,if_pos rfl]) }
end
set_option maxRecDepth 100000 in
set_option maxHeartbeats 1000000 in
theorem leads_path (w:World) (k:Int) (old size:Nat) (sa:Option Addr) (ns sc:Nat) (da:Option Addr) (dn dc:Nat) (xa:Option Addr) (xb xo xn xc:Nat) (X:List ByteArray) (hx:RdS w xa xb xo xn X) (h0:0<xn) (n:Nat) (d:ByteArray) (er:Int)
  (hR : ∀ W,Below w.heap.size w W→Calls Tryz.prog 72 #[vP 1 k old size (.slice sa ns sc) (.slice da dn dc),.string (X.getD 0 ByteArray.empty)] W fun e w'=>e = .returned (.tuple #[.agg #[.int .u64 (n:Int),.string d],.int .i64 er])∧Below W.heap.size W w') :
  Calls Tryz.prog 37 #[vP 1 k old size (.slice sa ns sc) (.slice da dn dc),.slice xa xn xc] w fun e w'=>e = .returned (.tuple #[.agg #[.int .u64 (n:Int),.string d],.int .i64 er])∧Below w.heap.size w w':=by
 obtain rfl:=hx.ptr h0
 obtain ⟨W0,hW0⟩ : ∃ W0,(w.alloc (.cells #[.int .i64 1,.int .i64 k,.int .u64 (old:Int),.int .u64 (size:Int),.slice sa ns sc,.slice da dn dc] 38)).alloc (.cells #[.int .u64 0,.string ⟨#[]⟩] 32)=W0:=⟨_,rfl⟩
 have hb0:Below w.heap.size w W0:=by rw [← hW0]; exact bal (bal (Below.refl _ _) _) _
 obtain ⟨h6,hr0⟩:Six W0 w.heap.size (.int .i64 1) (.int .i64 k) (.int .u64 (old:Int)) (.int .u64 (size:Int)) (.slice sa ns sc) (.slice da dn dc)∧Rh W0 (w.heap.size+1) 0 ⟨#[]⟩:=by
  obtain ⟨e1,e2⟩:=two_boxes w (.cells #[.int .i64 1,.int .i64 k,.int .u64 (old:Int),.int .u64 (size:Int),.slice sa ns sc,.slice da dn dc] 38) (.cells #[.int .u64 0,.string ⟨#[]⟩] 32)
  rw [← hW0]; exact ⟨e1,e2⟩
 have hb0':Below w.heap.size w W0:=hb0
 have m0:=h6.cells.1
 have HX:=hide (And.intro hx (And.intro hb0 (And.intro h6 hr0)))
 have HR:=hide hR
 unfold vP at HR
 clear hx hb0 h6 hr0 hR
 unfold vP
 go_enter Tryz.func37,Tryz.ntmps37
 go_upto_region 1 with (fail)
 try rw [hW0]
 clear hW0
 go_upto_region 2 with (fail)
 refine wp_region_planJ (by kernel_rfl) (by kernel_rfl) (LF w W0 (w.heap.size+1) w.heap.size (.agg #[.int .i64 1,.int .i64 k,.int .u64 (old:Int),.int .u64 (size:Int),.slice sa ns sc,.slice da dn dc]) xb xo xn xc (X.getD 0 ByteArray.empty) n d er)
  (fun Z _ hZ => { sz:=rfl,df:=rfl,i1:=rfl,i2:=rfl,i4:=rfl,b1:=(fun _=>hZ),b2:=(bnext hb0' hZ),a0:=(fun h=>by cases h),a1:=(fun h=>by cases h),a2:=(fun h=>by cases h),a3:=(fun h=>by cases h),a4:=(fun h=>by cases h),a5:=(fun h=>by cases h),a6:=(fun h=>by cases h),a7:=(fun h=>by cases h),a8:=(fun h=>by cases h) })
  ⟨lf_0 rfl (fun Z hZ=>⟨_,_,_,_,_,_,rfl,HX.out.2.2.1.next hZ⟩),lf_1,lf_2 rfl h0,lf_3 rfl rfl (fun Z hZ=>by have:=(HX.out.1.next (bnext hb0' hZ) (Nat.le_refl _)).at h0; exact this),lf_4 rfl rfl rfl (fun Z hZ=>HR.out Z (bnext hb0' hZ)),lf_5 rfl,lf_6 rfl,lf_7 rfl (fun Z hZ=>⟨_,_,HX.out.2.2.2.next hZ⟩) (by omega),lf_8 rfl,trivial⟩ ?_
 intro L a7 w7 hall hI
 obtain ⟨⟨tl⟩,df⟩:=a7
 have hl0:tl.length=21:=hI.sz
 obtain ⟨u0,t0,rfl,hl1⟩:=list_cut hl0
 obtain ⟨u1,t1,rfl,hl2⟩:=list_cut hl1
 obtain ⟨u2,t2,rfl,hl3⟩:=list_cut hl2
 obtain ⟨u3,t3,rfl,hl4⟩:=list_cut hl3
 obtain ⟨u4,t4,rfl,hl5⟩:=list_cut hl4
 obtain ⟨u5,t5,rfl,hl6⟩:=list_cut hl5
 obtain ⟨u6,t6,rfl,hl7⟩:=list_cut hl6
 obtain ⟨u7,t7,rfl,hl8⟩:=list_cut hl7
 obtain ⟨u8,t8,rfl,hl9⟩:=list_cut hl8
 obtain ⟨u9,t9,rfl,hl10⟩:=list_cut hl9
 obtain ⟨u10,t10,rfl,hl11⟩:=list_cut hl10
 obtain ⟨u11,t11,rfl,hl12⟩:=list_cut hl11
 obtain ⟨u12,t12,rfl,hl13⟩:=list_cut hl12
 obtain ⟨u13,t13,rfl,hl14⟩:=list_cut hl13
 obtain ⟨u14,t14,rfl,hl15⟩:=list_cut hl14
 obtain ⟨u15,t15,rfl,hl16⟩:=list_cut hl15
 obtain ⟨u16,t16,rfl,hl17⟩:=list_cut hl16
 obtain ⟨u17,t17,rfl,hl18⟩:=list_cut hl17
 obtain ⟨u18,t18,rfl,hl19⟩:=list_cut hl18
 obtain ⟨u19,t19,rfl,hl20⟩:=list_cut hl19
 obtain ⟨u20,t20,rfl,hl21⟩:=list_cut hl20
 obtain rfl:=List.length_eq_zero_iff.1 hl21
 obtain rfl:df=[]:=hI.df
 obtain rfl:u4 = .pointer (some ⟨w.heap.size+1,0,none⟩):=hI.i4
 obtain rfl:u5 = .int .i64 er:=hI.a8 (hall 8 (by decide))
 obtain ⟨s0,s1⟩:=(hI.a7 (hall 7 (by decide))).cells
 have HB:=hide hI.b2
 clear hall hI
 repeat go_step
 refine bodyPost_ret (v := .tuple #[.agg #[.int .u64 (n:Int),.string d],.int .i64 er]) (by simp [results,Tryz.results37,go_sem,s0,s1]) rfl ⟨rfl,HB.out⟩
end Go.Proofs.YtipcenbndhnnhaaGreatDoor
