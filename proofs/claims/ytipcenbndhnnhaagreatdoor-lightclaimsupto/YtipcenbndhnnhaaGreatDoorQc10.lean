/- Own work. -/
import Derived.Lib.AppendZeros
import Derived.Test.YtipcenbndhnnhaaGreatDoorQc09
namespace Go.Proofs.YtipcenbndhnnhaaGreatDoor
open Go.RowKit
open Cv (RdC Ap)
attribute [local go_sem ↓] Go.wp_at_zero Go.wp_at_succ
abbrev dn:Value := .slice none 0 0
abbrev cS (l:List ByteArray):List Value:=l.map Value.string
theorem cS_len (l:List ByteArray):(cS l).length=l.length * 1:=by simp [cS]
theorem cS_app (l m:List ByteArray):cS (l++m)=cS l++cS m:=List.map_append
theorem cS_one (l:List ByteArray) : ∀ u∈cS l,u.oneCell'=true:=by
 intro u hu; obtain ⟨y,_,rfl⟩:=List.mem_map.1 hu; rfl
theorem rds_rdc {w:World} {ao:Option Addr} {b off len cap:Nat} {ss:List ByteArray} (h:RdS w ao b off len ss) (hn:ao=none→cap=0):RdC w (.slice ao len cap) len (cS ss):=by
 refine ⟨ao,cap,rfl,fun e=>⟨?_,hn e⟩,fun ad ha j c hj => ?_⟩
 ·apply Classical.byContradiction
  intro h0
  have:=h.ptr (by omega)
  rw [e] at this
  cases this
 ·have hj':j<len:=by have:=(List.getElem?_eq_some_iff.1 hj).1; rw [List.length_map,h.hl] at this; exact this
  have:=h.ptr (by omega)
  rw [ha] at this
  cases this
  rw [Addr.add_mid]
  exact h.rng j c hj
theorem below_drew_alloc (w:World) (o:Obj):Below w.heap.size w (w.drew.alloc o):=(Below.refl w.heap.size w).drew.alloc (by simp) o
theorem take_succ_getD {α:Type} (d:α) (l:List α) (j:Nat) (h:j<l.length):l.take (j+1)=l.take j++[l.getD j d]:=by
 rw [List.take_add_one,List.getD_eq_getElem?_getD,List.getElem?_eq_getElem h]; rfl
theorem catl_le {α:Type} (Ls:List (List α)) (j:Nat):(Ls.take j).flatten.length≤Ls.flatten.length:=by
 have:=congrArg (fun x:List (List α)=>x.flatten.length) (List.take_append_drop j Ls)
 simp only [List.flatten_append,List.length_append] at this
 omega
set_option maxRecDepth 100000 in
theorem grow_S (w:World) (n:Nat) (hn:n≤8796093022208) :
  Calls Tryz.prog 159 #[.slice none 0 0,.int .i64 (n:Int)] w fun e w' => ∃ v,e = .returned v∧w'.ownsRow w.heap.size 9 1 v 0 []∧Below w.heap.size w w':=by
 obtain ⟨i0,hi,hz0,hz1,hz2⟩:=info_parts Tryz.infoS
 by_cases h0:n=0
 ·subst h0
  clear hn
  go_enter Tryz.func159,Tryz.ntmps159
  go_wp2
  go_ret
  exact ⟨_,rfl,World.ownsRow_nil _ _ _ _,Below.refl _ _⟩
 ·have hr:=fun ty=>Lib.run_append_nil_zeros (P:=Tryz.prog) w 22 3 ty 9 i0 _ .i64 .i64 Tryz.underlying22 Tryz.underlying3 hi hz0 n (by omega) (by rw [hz1]; decide) (by omega) (by rw [hz2]; omega)
  obtain ⟨G,hG⟩ : ∃ G,grownCap w n 0 9=G:=⟨_,rfl⟩
  have hge:=grownCap_ge w n 0 9
  have hle:=grownCap_le_maxLen w n 0 9 (by unfold maxLen; omega)
  rw [hG] at hge hle hr
  have HO:Hid ((w.drew.alloc (.cells (Builtin.zeroCells (Value.cells (.string ByteArray.empty)) n++Builtin.zeroCells (Value.cells (.string ByteArray.empty)) (G - n)) 9)).ownsRow w.heap.size 9 1 (.slice (some ⟨w.heap.size,0,none⟩) 0 G) 0 []):=by
   refine ⟨rfl,.inr ⟨w.heap.size,G,_,rfl,Nat.le_refl _,heap_alloc_new w.drew _,Nat.zero_le _,hle,?_,by simp⟩⟩
   rw [Array.size_append,size_zeroCells,size_zeroCells,show (Value.cells (.string ByteArray.empty)).size=1 from rfl,← Nat.add_mul]
   congr 1
   omega
  have hG63:G≤9223372036854775807:=by unfold maxLen at hle; omega
  have hn0:(0:Int)<(n:Int):=by omega
  have hnz : ¬ (n:Int)<0:=by omega
  clear hG hge hle hi hz0 hz1 hz2 h0
  go_enter Tryz.func159,Tryz.ntmps159
  go_wp2_with (at_builtin; refine Lib.wpList_append_run _ rfl _ _ _ _ rfl _ _ rfl rfl _ _ (hr _) ?_)
  go_ret
  exact ⟨_,rfl,HO.out,below_drew_alloc w _⟩
structure CatS (w:World) (g0:Nat) (us:List Value) (Ls:List (List (ByteArray))):Prop where
 len:us.length=Ls.length
 cell : ∀ j,j<us.length→w.cell? ⟨g0,j,none⟩=some (us.getD j dn)
 rd : ∀ j,j<us.length→RdC w (us.getD j dn) (Ls.getD j []).length (cS (Ls.getD j []))
theorem CatS.next {w W:World} {g0:Nat} {us:List Value} {Ls:List (List (ByteArray))} (h:CatS w g0 us Ls) (hb:Below w.heap.size w W):CatS W g0 us Ls :=
 ⟨h.len,fun j hj=>(hb.cell (World.block_lt_of_cell? w _ (h.cell j hj))).trans (h.cell j hj),fun j hj=>Cv.rdc_keep (h.rd j hj) hb⟩
set_option maxRecDepth 100000 in
set_option maxHeartbeats 1000000 in
theorem concat_S (w:World) (g0 c0:Nat) (us:List Value) (Ls:List (List (ByteArray))) (h:CatS w g0 us Ls) (hu:us.length≤1000) (hm:Ls.flatten.length≤8796093022208) (cl:List (ByteArray)) (hcl:Ls.flatten=cl) :
  Calls Tryz.prog 118 #[.slice (some ⟨g0,0,none⟩) us.length c0] w fun e w' => ∃ v,e = .returned v∧w'.ownsRow w.heap.size 9 1 v cl.length (cS cl)∧Below w.heap.size w w':=by
 obtain ⟨i0,hi,hz0,hz1,hz2⟩:=info_parts Tryz.infoS
 have HC:Hid (∀ W,Below w.heap.size w W→CatS W g0 us Ls):=fun W hb=>h.next hb
 have HX:Hid (us.length=Ls.length∧us.length≤1000∧Ls.flatten.length≤8796093022208∧Ls.flatten=cl):=⟨h.len,hu,hm,hcl⟩
 have h63:(us.length:Int)≤1000:=by omega
 have hb0:=Below.refl w.heap.size w
 have HI:Hid (Tryz.prog.info? 9=some i0∧i0.zero=some (.string ByteArray.empty)∧i0.size=1∧i0.bytes=16):=⟨hi,hz0,hz1,hz2⟩
 clear h hu hm hcl hi hz0 hz1 hz2
 go_enter Tryz.func118,Tryz.ntmps118
 go_wp2
 go_loopg [3,11] us.length (fun g s i wr => ∃ j:Nat,j≤us.length∧g=us.length - j∧i = .int .i64 (j:Int)∧s = .int .i64 ((Ls.take j).flatten.length:Int)∧Below w.heap.size w wr)
 case atStart =>
  go_light
  exact ⟨0,Nat.zero_le _,rfl,rfl,rfl,hb0⟩
 case round =>
  clear hb0
  obtain ⟨j,hj,rfl,rfl,rfl,hb⟩:=hrel
  by_cases hlt:j<us.length
  ·have hz:(j:Int)<(us.length:Int):=by omega
   have hz0:(0:Int)≤(j:Int):=Int.natCast_nonneg _
   have cj:=(HC.out wr hb).cell j hlt
   obtain ⟨ao,cap,hv,_,_⟩:=(HC.out wr hb).rd j hlt
   rw [hv] at cj
   obtain ⟨m,hmm⟩ : ∃ m,(Ls.getD j []).length=m:=⟨_,rfl⟩
   rw [hmm] at cj
   have hs:(Ls.take (j+1)).flatten.length=(Ls.take j).flatten.length+m:=by
    rw [take_succ_getD [] Ls j (by have:=HX.out.1; omega),List.flatten_append,List.length_append,List.flatten_singleton,hmm]
   have hle:=catl_le Ls (j+1)
   obtain ⟨a,ha⟩ : ∃ a,(Ls.take j).flatten.length=a:=⟨_,rfl⟩
   rw [ha] at hs ⊢
   have hax:a+m≤8796093022208:=by have:=HX.out.2.2.1; omega
   have e1:IntKind.i64.wrap ((a:Int)+(m:Int))=(a:Int)+(m:Int):=by rw [IntKind.wrap_i64]; omega
   have hpos : ¬ (a:Int)+(m:Int)<0:=by omega
   have HS:Hid ((a:Int)+(m:Int)=((Ls.take (j+1)).flatten.length:Nat)):=by show _=_; rw [hs]; omega
   clear hs hle ha hmm hv hax
   go_wp2
   go_roundg (us.length - (j+1))
   case rel =>
    go_light
    exact ⟨j+1,by omega,rfl,by go_num,by rw [HS.out],hb⟩
   case measure=>go_light; omega
  ·obtain rfl:j=us.length:=by omega
   have hz : ¬ ((us.length:Int)<(us.length:Int)):=by omega
   have ha:(Ls.take us.length).flatten.length=Ls.flatten.length:=by rw [HX.out.1,List.take_length]
   rw [ha]
   have HG:Hid (∀ W,Calls Tryz.prog 159 #[.slice none 0 0,.int .i64 (Ls.flatten.length:Int)] W fun e w' => ∃ v,e = .returned v∧w'.ownsRow W.heap.size 9 1 v 0 []∧Below W.heap.size W w'):=fun W=>grow_S W _ HX.out.2.2.1
   obtain ⟨q,hq⟩ : ∃ q,Ls.flatten.length=q:=⟨_,rfl⟩
   rw [hq] at HG ⊢
   clear ha hlt hj hq
   go_wp2_with (go_at_call 159; with_reducible refine (HG.out _).mono ?_; rintro e w1 ⟨v,rfl,ho,hb1⟩)
   have hb2:=bnext hb hb1
   have ho2:w1.ownsRow w.heap.size 9 1 v 0 []:=ho.mono hb.size
   clear hb hb1 ho
   go_wp2
   go_loopg [6,27] us.length (fun g v i wr => ∃ j:Nat,j≤us.length∧g=us.length - j∧i = .int .i64 (j:Int)∧wr.ownsRow w.heap.size 9 1 v (Ls.take j).flatten.length (cS (Ls.take j).flatten)∧Below w.heap.size w wr)
   case atStart =>
    go_light
    exact ⟨0,Nat.zero_le _,rfl,rfl,ho2,hb2⟩
   case round =>
    clear hb2 ho2
    obtain ⟨j,hj,rfl,rfl,ho,hb⟩:=hrel
    by_cases hlt:j<us.length
    ·have hz:(j:Int)<(us.length:Int):=by omega
     have hz0:(0:Int)≤(j:Int):=Int.natCast_nonneg _
     have cj:=(HC.out wr hb).cell j hlt
     have rj:=(HC.out wr hb).rd j hlt
     obtain ⟨u,hu⟩ : ∃ u,us.getD j dn=u:=⟨_,rfl⟩
     obtain ⟨l,hl⟩ : ∃ l,Ls.getD j []=l:=⟨_,rfl⟩
     rw [hu] at cj rj
     rw [hl] at rj
     have ht:(Ls.take (j+1)).flatten=(Ls.take j).flatten++l:=by
      rw [take_succ_getD [] Ls j (by have:=HX.out.1; omega),List.flatten_append,List.flatten_singleton,hl]
     have hle:=catl_le Ls (j+1)
     obtain ⟨a,ha⟩ : ∃ a,(Ls.take j).flatten=a:=⟨_,rfl⟩
     rw [ha] at ht ho
     rw [ht,List.length_append] at hle
     have HS:Hid ((Ls.take (j+1)).flatten=a++l∧a.length+l.length≤8796093022208∧RdC wr u l.length (cS l)∧wr.ownsRow w.heap.size 9 1 u6 a.length (cS a)∧w.heap.size≤wr.heap.size):=⟨ht,by have:=HX.out.2.2.1; omega,rj,ho,hb.size⟩
     clear ht hle ha hl hu ho rj
     go_wp2_with (at_builtin; refine Cv.wpList_append_ap _ rfl _ _ _ rfl w.heap.size 9 i0 (.string ByteArray.empty) 1 16 Tryz.underlying22 HI.out.1 HI.out.2.1 HI.out.2.2.1 HI.out.2.2.2 rfl (by decide) _ a.length (cS a) rfl HS.out.2.2.2.1 _ l.length (cS l) rfl HS.out.2.2.1 (cS_len l) (cS_one l) ?c1 ?c2 HS.out.2.2.2.2 ?_)
     case c1=>have:=HS.out.2.1; unfold maxLen; omega
     case c2=>have:=HS.out.2.1; omega
     intro v' w1 hap
     have HY:Hid (w1.ownsRow w.heap.size 9 1 v' (a++l).length (cS (a++l))∧Below w.heap.size w w1):=by
      refine ⟨?_,(Cv.ownB_step0 hb HS.out.2.2.2.2 HS.out.2.2.2.1 hap.grown).1⟩
      rw [List.length_append,cS_app]; exact hap.own
     clear hap hb
     go_wp2
     go_roundg (us.length - (j+1))
     case rel =>
      go_light
      refine ⟨j+1,by omega,rfl,by go_num,?_,HY.out.2⟩
      rw [HS.out.1]; exact HY.out.1
     case measure=>go_light; omega
    ·obtain rfl:j=us.length:=by omega
     have hz : ¬ ((us.length:Int)<(us.length:Int)):=by omega
     rw [HX.out.1,List.take_length,HX.out.2.2.2] at ho
     clear hlt hj
     go_wp2
     go_ret
     exact ⟨_,rfl,ho,hb⟩
end Go.Proofs.YtipcenbndhnnhaaGreatDoor
namespace Go.Proofs.YtipcenbndhnnhaaGreatDoor
open Go.RowKit
open Cv (RdC zl)
attribute [local go_sem ↓] Go.wp_at_zero Go.wp_at_succ
theorem getD_zl (M:List (Nat×Nat)) (j:Nat) (hj:j<M.length):(zl M).getD j (0,0)=(((M.getD j (0,0)).1:Int),(M.getD j (0,0)).2):=by
 unfold zl
 rw [List.getD_eq_getElem?_getD,List.getD_eq_getElem?_getD,List.getElem?_map,List.getElem?_eq_getElem hj]
 rfl
theorem wy_find {n i H:Nat} {A B:List (Nat×Nat)} (hw:Wy n i A H B) {j h:Nat} (hj:j<(Cv.dnL 41 0 n).length) (he:(Cv.dnL 41 0 n).getD j (0,0)=(h,i / 2^h)):j=A.length∧h=H:=by
 rw [hw.all] at hj he
 rw [List.getD_eq_getElem?_getD] at he
 rcases Nat.lt_trichotomy j A.length with hlt | heq | hgt
 ·rw [List.getElem?_append_left hlt,List.getElem?_eq_getElem hlt] at he
  have:=hw.no_left (List.getElem_mem hlt)
  rw [show A[j]=(h,i / 2^h) from he] at this
  exact absurd this (Nat.lt_irrefl _)
 ·subst heq
  rw [List.getElem?_append_right (Nat.le_refl _),Nat.sub_self] at he
  exact ⟨rfl,(congrArg Prod.fst (show (H,i / 2^H)=(h,i / 2^h) from he)).symm⟩
 ·rw [List.length_append,List.length_cons] at hj
  obtain ⟨t,rfl⟩ : ∃ t,j=A.length+(t+1):=⟨j - A.length - 1,by omega⟩
  have ht:t<B.length:=by omega
  rw [List.getElem?_append_right (by omega),show A.length+(t+1) - A.length=t+1 by omega,List.getElem?_cons_succ,List.getElem?_eq_getElem ht] at he
  have:=hw.no_right (List.getElem_mem ht)
  rw [show B[t]=(h,i / 2^h) from he] at this
  exact absurd this (Nat.lt_irrefl _)
theorem wy_at {n i H:Nat} {A B:List (Nat×Nat)} (hw:Wy n i A H B):A.length<(Cv.dnL 41 0 n).length∧(Cv.dnL 41 0 n).getD A.length (0,0)=(H,i / 2^H):=by
 rw [hw.all]
 refine ⟨by simp,?_⟩
 rw [List.getD_eq_getElem?_getD,List.getElem?_append_right (Nat.le_refl _),Nat.sub_self]
 rfl
theorem fit40 {b:Nat×Nat} {n:Nat} (h:(b.2+1) * 2^b.1≤n) (hn:n≤2^40):Fitb (b.1:Int) b.2∧b.1≤40∧b.2<2^40:=by
 have hp:=Nat.two_pow_pos b.1
 have h1:2^b.1≤(b.2+1) * 2^b.1:=Nat.le_mul_of_pos_left _ (by omega)
 have h2:b.2+1≤(b.2+1) * 2^b.1:=Nat.le_mul_of_pos_right _ hp
 have h3:b.1<2^b.1:=Nat.lt_two_pow_self
 have h4:b.1≤40:=Cv.pw40 (h:=b.1) (by show 2^b.1≤_; omega)
 exact ⟨⟨⟨by omega,by omega⟩,by omega⟩,h4,by omega⟩
theorem mount40 (n:Nat) (hn:n≤2^40):Cv.errR 0 n n=0∧Cv.covR 0 n n=Cv.dnL 41 0 n:=by
 have h:Cv.errR 0 n n=0:=by rw [Cv.errR,if_neg (by omega),if_neg (by omega),if_neg (by omega)]
 exact ⟨h,by rw [Cv.covR,if_pos h,Cv.cov_zero n hn]⟩
theorem sb_xor (q:Nat):Nat.xor q 1=sb q:=by
 unfold sb
 have h1:Nat.xor q 1=q ^^^ 1:=rfl
 rw [h1]
 apply Nat.eq_of_testBit_eq
 intro t
 rw [Nat.testBit_xor]
 cases t with
 | zero =>
  have h0 : ∀ x,Nat.testBit x 0=decide (x % 2=1):=fun x=>Nat.testBit_zero x
  rw [h0,h0,h0]
  by_cases h:q % 2=1
  ·rw [if_pos h]
   have:(q - 1) % 2=0:=by omega
   simp [h,this]
  ·rw [if_neg h]
   have:(q+1) % 2=1:=by omega
   simp [h,this]
 | succ t =>
  rw [Nat.testBit_succ,Nat.testBit_succ,Nat.testBit_succ]
  by_cases h:q % 2=1
  ·rw [if_pos h,show (q - 1) / 2=q / 2 by omega]; simp
  ·rw [if_neg h,show (q+1) / 2=q / 2 by omega]; simp
end Go.Proofs.YtipcenbndhnnhaaGreatDoor
namespace Go.Proofs.YtipcenbndhnnhaaGreatDoor.Cv
open Pl
open Go.RowKit
attribute [local go_sem ↓] Go.wp_at_zero Go.wp_at_succ
structure RdB (w:World) (ao:Option Addr) (g n:Nat) (l:List (Int×Nat)):Prop where
 len:l.length=n
 addr:0<n→ao=some ⟨g,0,none⟩
 cell : ∀ j,j<n→w.cell? ⟨g,j * 2,none⟩=some (.int .i64 (l.getD j (0,0)).1)∧w.cell? ⟨g,j * 2+1,none⟩=some (.int .u64 ((l.getD j (0,0)).2:Nat))
theorem RdB.below {w w':World} {ao:Option Addr} {g n:Nat} {l:List (Int×Nat)} (r:RdB w ao g n l) (h:Below w.heap.size w w'):RdB w' ao g n l :=
 ⟨r.len,r.addr,fun j hj=>⟨(h.cell (p:=⟨g,j * 2,none⟩) (World.block_lt_of_cell? w _ (r.cell j hj).1)).trans (r.cell j hj).1,(h.cell (p:=⟨g,j * 2+1,none⟩) (World.block_lt_of_cell? w _ (r.cell j hj).2)).trans (r.cell j hj).2⟩⟩
theorem own_rdB {w:World} {base:Nat} {v:Value} {l:List (Int×Nat)} (h:OwnB w base v l) : ∃ ao g n cap,v = .slice ao n cap∧RdB w ao g n l∧n≤maxLen:=by
 have h0:=h
 obtain ⟨h1,h2⟩:=h
 rcases h2 with ⟨rfl,h2⟩ | ⟨g,cap,cur,rfl,hg,hh,hc1,hc2,hc3,hc4⟩
 ·exact ⟨none,0,0,0,rfl,⟨h2,fun h=>absurd h (by omega),fun j hj=>absurd hj (by omega)⟩,Nat.zero_le _⟩
 ·refine ⟨some ⟨g,0,none⟩,g,l.length,cap,rfl,⟨rfl,fun _=>rfl,fun j hj => ?_⟩,by omega⟩
  have hcl:=h0.cells (g:=g) rfl
  obtain ⟨⟨a,b⟩,hq⟩ : ∃ q,l[j]=q:=⟨_,rfl⟩
  have hget:l[j]? = some (a,b):=by rw [List.getElem?_eq_getElem hj,hq]
  obtain ⟨e1,e2⟩:=cB_get l j a b hget
  have f1:=hcl _ _ e1
  have f2:=hcl _ _ e2
  rw [Addr.add_mid,Nat.zero_add,Nat.mul_comm] at f1 f2
  rw [List.getD_eq_getElem?_getD,hget]
  exact ⟨f1,f2⟩
theorem own_lit (w:World) (B:Nat) (cs:Array Value) (l:List (Int×Nat)) (hcs:cs.toList=cB l) (hB:B≤w.heap.size) (hl:l.length≤1000) :
  OwnB (w.alloc (.cells cs 94)) B (.slice (some ⟨w.heap.size,0,none⟩) l.length l.length) l:=by
 refine ⟨cB_len l,.inr ⟨w.heap.size,l.length,cs,rfl,hB,heap_new _ _,Nat.le_refl _,by unfold maxLen; omega,?_,?_⟩⟩
 ·rw [← Array.length_toList,hcs,cB_len]
 ·rw [hcs,← cB_len,List.take_length]
theorem below_new {w w':World} {o:Obj} (h:Below (w.alloc o).heap.size (w.alloc o) w'):Below w.heap.size w w' :=
 ((Below.refl _ w).alloc (Nat.le_refl _) o).trans (h.mono (by simp))
abbrev bv (h k:Nat):Value := .agg #[.int .i64 (h:Int),.int .u64 (k:Int)]
def Row (q:Nat):Nat→List (Nat×Nat)→Prop
 | p,[]=>p=q
 | p,b::L=>p=b.2 * pw b.1∧b.1≤40∧b.2<pw (40 - b.1)∧Row q ((b.2+1) * pw b.1) L
theorem blk_may {h k:Nat} (hb:(k+1) * pw h≤2^40):h≤40∧k<pw (40 - h):=by
 have h1:pw h≤(k+1) * pw h:=Nat.le_mul_of_pos_left _ (by omega)
 have hh:h≤40:=pw40 (by omega)
 refine ⟨hh,?_⟩
 have e:(2:Nat)^40=pw (40 - h) * pw h:=by rw [← pw_add,show 40 - h+h=40 by omega]; rfl
 rw [e] at hb
 exact Nat.lt_of_lt_of_le (Nat.lt_succ_self k) (Nat.le_of_mul_le_mul_right hb (pw_pos h))
theorem til_row {lo hi:Nat} (hhi:hi≤2^40) : ∀ {L:List (Nat×Nat)} {p:Nat},lo≤p→Til (Rg lo hi) hi p L→Row hi p L:=by
 intro L
 induction L with
 | nil =>
  intro p h1 h2
  show p=hi
  have:=h2.1
  by_cases he:p=hi
  ·exact he
  ·exact absurd ⟨h1,by omega⟩ (h2.2 p (Nat.le_refl _) (by omega))
 | cons b L ih =>
  intro p h1 h2
  obtain ⟨a1,a2,a3,a4,a5,a6⟩:=h2
  have hlt:=blk_lt b.1 b.2
  have hm:=blk_may (Nat.le_trans a2 hhi)
  refine ⟨?_,hm.1,hm.2,ih (by omega) a6⟩
  by_cases he:p=b.2 * pw b.1
  ·exact he
  ·exact absurd ⟨h1,by omega⟩ (a3 p (Nat.le_refl _) (by omega))
theorem cov_row (lo hi:Nat) (h:lo≤hi) (hhi:hi≤2^40):Row hi lo (cov lo hi):=til_row hhi (Nat.le_refl _) (cov_til lo hi h hhi)
theorem til_mem {A:Nat→Prop} {q:Nat} : ∀ {L:List (Nat×Nat)} {p:Nat},Til A q p L → ∀ b∈L,¬ All A (b.1+1) (b.2 / 2)∧(b.2+1) * pw b.1≤q:=by
 intro L
 induction L with
 | nil=>intro p _ b hb; cases hb
 | cons c L ih =>
  intro p h b hb
  rcases List.mem_cons.1 hb with rfl | hb
  ·exact ⟨h.2.2.2.2.1,h.2.1⟩
  ·exact ih h.2.2.2.2.2 b hb
theorem drop_at {α:Type} (d:α) (l:List α) (j:Nat) (h:j<l.length):l.drop j=l.getD j d::l.drop (j+1):=by
 rw [List.drop_eq_getElem_cons h,List.getD_eq_getElem?_getD,List.getElem?_eq_getElem h]; rfl
theorem zl_getD (L:List (Nat×Nat)) (j:Nat):(zl L).getD j (0,0)=(((L.getD j (0,0)).1:Int),(L.getD j (0,0)).2):=by
 by_cases h:j<L.length
 ·simp [zl,List.getD_eq_getElem?_getD,List.getElem?_eq_getElem h]
 ·simp [zl,List.getD_eq_getElem?_getD,List.getElem?_eq_none (Nat.le_of_not_lt h)]
end Go.Proofs.YtipcenbndhnnhaaGreatDoor.Cv
namespace Go.Proofs.YtipcenbndhnnhaaGreatDoor
open Pl (pw pw_succ pw_pos pw_zero)
open Cv (tno inb inb_iff)
def bl (S:List Nat) (x:Nat):Nat:=(S.filter fun i=>decide (i<x)).length
theorem bl_le (S:List Nat) (x:Nat):bl S x≤S.length:=List.length_filter_le _ _
abbrev Asc (S:List Nat):Prop:=S.Pairwise (· < ·)
theorem bl_split (x:Nat) : ∀ {S:List Nat},Asc S→S.filter (fun i=>decide (i<x))=S.take (bl S x)∧S.filter (fun i=>decide (x≤i))=S.drop (bl S x)
 | [],_=>⟨rfl,rfl⟩
 | a::S,h=>by
  obtain ⟨h1,h2⟩:=List.pairwise_cons.1 h
  obtain ⟨i1,i2⟩:=bl_split x h2
  by_cases ha:a<x
  ·have e:bl (a::S) x=bl S x+1:=by simp [bl,ha]
   have hn : ¬ x≤a:=by omega
   rw [e,List.take_succ_cons,List.drop_succ_cons,← i1,← i2]
   constructor
   ·rw [List.filter_cons_of_pos (by simpa using ha)]
   ·rw [List.filter_cons_of_neg (by simpa using hn)]
  ·have hn : ∀ i∈S,¬ i<x:=fun i hi=>by have:=h1 i hi; omega
   have e1:S.filter (fun i=>decide (i<x))=[]:=List.filter_eq_nil_iff.2 (by simpa using hn)
   have e:bl (a::S) x=0:=by rw [bl,List.filter_cons_of_neg (by simpa using ha),e1]; rfl
   rw [e]
   constructor
   ·rw [List.filter_cons_of_neg (by simpa using ha),e1]; rfl
   ·refine List.filter_eq_self.2 fun i hi => ?_
    rcases List.mem_cons.1 hi with rfl | hi
    ·simpa using ha
    ·simpa using hn i hi
theorem mem_low {S:List Nat} {x i:Nat} (h:Asc S) (hi:i∈S.take (bl S x)):i<x:=by
 rw [← (bl_split x h).1] at hi
 simpa using (List.mem_filter.1 hi).2
theorem mem_high {S:List Nat} {x i:Nat} (h:Asc S) (hi:i∈S.drop (bl S x)):x≤i:=by
 rw [← (bl_split x h).2] at hi
 simpa using (List.mem_filter.1 hi).2
theorem asc_take {S:List Nat} (h:Asc S) (t:Nat):Asc (S.take t):=h.sublist (List.take_sublist _ _)
theorem asc_drop {S:List Nat} (h:Asc S) (t:Nat):Asc (S.drop t):=h.sublist (List.drop_sublist _ _)
theorem mem_take {S:List Nat} {t i:Nat} (hi:i∈S.take t):i∈S:=(List.take_sublist _ _).subset hi
theorem mem_drop {S:List Nat} {t i:Nat} (hi:i∈S.drop t):i∈S:=(List.drop_sublist _ _).subset hi
theorem tno_fil (h k:Nat) (S:List Nat):tno h k (S.filter (inb h k))=tno h k S:=by
 cases h <;> simp only [tno,List.filter_filter,Bool.and_self]
theorem tno_nil (h k:Nat):tno h k []=[(h,k)]:=by cases h <;> rfl
abbrev In (h k:Nat) (S:List Nat):Prop := ∀ i∈S,k * pw h≤i∧i<(k+1) * pw h
theorem in_cut {h k:Nat} {S:List Nat} (hp:Asc S) (hS:In (h+1) k S):S.filter (inb h (2 * k))=S.take (bl S ((2 * k+1) * pw h))∧S.filter (inb h (2 * k+1))=S.drop (bl S ((2 * k+1) * pw h)):=by
 obtain ⟨h1,h2⟩:=bl_split ((2 * k+1) * pw h) hp
 rw [← h1,← h2]
 have e1:=Cv.half_lo h k
 have e2:=Cv.half_hi h k
 constructor
 ·refine List.filter_congr fun i hi => ?_
  have:=hS i hi
  rw [Bool.eq_iff_iff,inb_iff,decide_eq_true_iff]; omega
 ·refine List.filter_congr fun i hi => ?_
  have:=hS i hi
  rw [Bool.eq_iff_iff,inb_iff,decide_eq_true_iff]; omega
theorem in_low {h k:Nat} {S:List Nat} (hp:Asc S) (hS:In (h+1) k S):In h (2 * k) (S.take (bl S ((2 * k+1) * pw h))):=fun i hi=>by
 rw [← (in_cut hp hS).1] at hi
 exact inb_iff.1 (List.mem_filter.1 hi).2
theorem in_high {h k:Nat} {S:List Nat} (hp:Asc S) (hS:In (h+1) k S):In h (2 * k+1) (S.drop (bl S ((2 * k+1) * pw h))):=fun i hi=>by
 rw [← (in_cut hp hS).2] at hi
 exact inb_iff.1 (List.mem_filter.1 hi).2
theorem tno_cut {h k:Nat} {S:List Nat} (hp:Asc S) (hS:In (h+1) k S) (h0:S≠[]):tno (h+1) k S=tno h (2 * k) (S.take (bl S ((2 * k+1) * pw h)))++tno h (2 * k+1) (S.drop (bl S ((2 * k+1) * pw h))):=by
 have e:S.filter (inb (h+1) k)=S:=List.filter_eq_self.2 fun i hi=>inb_iff.2 (hS i hi)
 rw [tno,e,if_neg (by simpa [List.length_eq_zero_iff] using h0),← tno_fil h (2 * k) S,← tno_fil h (2 * k+1) S,(in_cut hp hS).1,(in_cut hp hS).2]
theorem tno_full {k:Nat} {S:List Nat} (hS:In 0 k S) (h0:S≠[]):tno 0 k S=[]:=by
 have e:S.filter (inb 0 k)=S:=List.filter_eq_self.2 fun i hi=>inb_iff.2 (hS i hi)
 rw [tno,e,if_neg (by simpa [List.length_eq_zero_iff] using h0)]
theorem in_one {k i:Nat} {S:List Nat} (hS:In 0 k (i::S)):i=k:=by
 have:=hS i (List.mem_cons_self ..)
 rw [pw_zero] at this; omega
def vB (c:Nat):Nat→Nat→List Nat→List ByteArray→List ByteArray→ByteArray
 | 0,_,S,X,D=>if S.length=0 then D.getD 0 ByteArray.empty else dg c (leafT (X.getD 0 ByteArray.empty))
 | h+1,k,S,X,D=>if S.length=0 then D.getD 0 ByteArray.empty else dg c (nodeT (vB c h (2 * k) (S.take (bl S ((2 * k+1) * pw h))) (X.take (bl S ((2 * k+1) * pw h))) D) (vB c h (2 * k+1) (S.drop (bl S ((2 * k+1) * pw h))) (X.drop (bl S ((2 * k+1) * pw h))) (D.drop (tno h (2 * k) (S.take (bl S ((2 * k+1) * pw h)))).length)))
theorem vB_nil (c h k:Nat) (X D:List ByteArray):vB c h k [] X D=D.getD 0 ByteArray.empty:=by cases h <;> simp [vB]
theorem vB_leaf (c k:Nat) {S:List Nat} (X D:List ByteArray) (h0:S≠[]):vB c 0 k S X D=dg c (leafT (X.getD 0 ByteArray.empty)):=by
 rw [vB,if_neg (by simpa [List.length_eq_zero_iff] using h0)]
theorem vB_two (c h k:Nat) {S:List Nat} (X D:List ByteArray) (h0:S≠[]) {t:Nat} (ht:bl S ((2 * k+1) * pw h)=t):vB c (h+1) k S X D=dg c (nodeT (vB c h (2 * k) (S.take t) (X.take t) D) (vB c h (2 * k+1) (S.drop t) (X.drop t) (D.drop (tno h (2 * k) (S.take t)).length))):=by
 rw [vB,if_neg (by simpa [List.length_eq_zero_iff] using h0),ht]
theorem vB_size {c:Nat} (hc:c≤32) : ∀ (h k:Nat) (S:List Nat) (X D:List ByteArray),(∀ s∈D,s.size=c)→0<D.length∨S≠[]→(vB c h k S X D).size=c:=by
 intro h k S X D hD h0
 by_cases hS:S=[]
 ·subst hS
  rw [vB_nil]
  exact hD _ (getD_mem (by rcases h0 with h0 | h0; exact h0; exact absurd rfl h0))
 ·cases h with
  | zero=>rw [vB_leaf c k X D hS]; exact dg_size hc _
  | succ h=>rw [vB_two c h k X D hS rfl]; exact dg_size hc _
theorem vB_nd (c:Nat) (L:List ByteArray) : ∀ (h k:Nat) (S:List Nat) (X D D':List ByteArray),Asc S→In h k S→X=S.map (fun i=>L.getD i ByteArray.empty)→D=(tno h k S).map (fun b=>nd c L b.1 b.2)++D'→vB c h k S X D=nd c L h k:=by
 intro h
 induction h with
 | zero =>
  intro k S X D D' hp hS hX hD
  cases S with
  | nil=>rw [vB_nil,hD,tno_nil]; rfl
  | cons i S =>
   obtain rfl:=in_one hS
   rw [vB_leaf c i X D (by simp),hX]; rfl
 | succ h ih =>
  intro k S X D D' hp hS hX hD
  by_cases h0:S=[]
  ·subst h0
   rw [vB_nil,hD,tno_nil]; rfl
  ·rw [vB_two c h k X D h0 rfl]
   rw [tno_cut hp hS h0,List.map_append,List.append_assoc] at hD
   rw [ih (2 * k) _ _ D _ (asc_take hp _) (in_low hp hS) (by rw [hX,List.map_take]) hD,ih (2 * k+1) _ _ _ D' (asc_drop hp _) (in_high hp hS) (by rw [hX,List.map_drop]) (by rw [hD]; exact List.drop_left' (by rw [List.length_map])),nd]
def Tl (c:Nat) (K:List ((Nat×Nat)×ByteArray)):Nat→Nat→ByteArray→Prop
 | 0,k,v=>((0,k),v)∈K
 | h+1,k,v=>((h+1,k),v)∈K∨((∀ u,((h+1,k),u) ∉ K) ∧ ∃ x y,Tl c K h (2 * k) x∧Tl c K h (2 * k+1) y∧v=dg c (nodeT x y))
theorem Tl.at {c:Nat} {K:List ((Nat×Nat)×ByteArray)} {h k:Nat} {v:ByteArray} (e:((h,k),v)∈K):Tl c K h k v:=by
 cases h with
 | zero=>exact e
 | succ h=>exact .inl e
theorem getD_app {α:Type} (d:α) (A B:List α) (j:Nat):(A++B).getD (A.length+j) d=B.getD j d:=by
 rw [List.getD_eq_getElem?_getD,List.getElem?_append_right (by omega),Nat.add_sub_cancel_left,List.getD_eq_getElem?_getD]
theorem getD_fst {α:Type} (d:α) (A B:List α) {j:Nat} (h:j<A.length):(A++B).getD j d=A.getD j d:=by
 rw [List.getD_eq_getElem?_getD,List.getElem?_append_left h,List.getD_eq_getElem?_getD]
theorem getD_dr {α:Type} (d:α) (A:List α) (t j:Nat):(A.drop t).getD j d=A.getD (t+j) d:=by
 rw [List.getD_eq_getElem?_getD,List.getElem?_drop,List.getD_eq_getElem?_getD]
theorem getD_tk {α:Type} (d:α) (A:List α) {t j:Nat} (h:j<t):(A.take t).getD j d=A.getD j d:=by
 rw [List.getD_eq_getElem?_getD,List.getElem?_take,if_pos h,List.getD_eq_getElem?_getD]
theorem vB_tl (c:Nat) (K:List ((Nat×Nat)×ByteArray)) : ∀ (h k:Nat) (S:List Nat) (X D:List ByteArray),Asc S→In h k S→(∀ e∈K,0<e.1.1 → ∀ i∈S,¬ (e.1.2 * pw e.1.1≤i∧i<(e.1.2+1) * pw e.1.1))→(∀ j,j<S.length→((0,S.getD j 0),dg c (leafT (X.getD j ByteArray.empty)))∈K)→(∀ j,j<(tno h k S).length→((tno h k S).getD j (0,0),D.getD j ByteArray.empty)∈K)→Tl c K h k (vB c h k S X D):=by
 intro h
 induction h with
 | zero =>
  intro k S X D hp hS hK hX hD
  cases S with
  | nil=>rw [vB_nil]; exact Tl.at (hD 0 (by rw [tno_nil]; exact Nat.zero_lt_one))
  | cons i S =>
   obtain rfl:=in_one hS
   rw [vB_leaf c i X D (by simp)]
   exact hX 0 (by simp)
 | succ h ih =>
  intro k S X D hp hS hK hX hD
  by_cases h0:S=[]
  ·subst h0
   rw [vB_nil]; exact Tl.at (hD 0 (by rw [tno_nil]; exact Nat.zero_lt_one))
  ·obtain ⟨t,ht⟩ : ∃ t,bl S ((2 * k+1) * pw h)=t:=⟨_,rfl⟩
   have htl:t≤S.length:=by rw [← ht]; exact bl_le _ _
   have l1:=in_low hp hS
   have l2:=in_high hp hS
   have l3:=tno_cut hp hS h0
   rw [ht] at l1 l2 l3
   rw [vB_two c h k X D h0 ht]
   refine .inr ⟨fun u hu => ?_,_,_,?_,?_,rfl⟩
   ·obtain ⟨i,hi⟩:=List.exists_mem_of_ne_nil S h0
    exact hK _ hu (Nat.succ_pos h) i hi (hS i hi)
   ·refine ih (2 * k) _ _ D (asc_take hp _) l1 (fun e he h1 i hi=>hK e he h1 i (mem_take hi)) (fun j hj => ?_) (fun j hj => ?_)
    ·rw [List.length_take] at hj
     rw [getD_tk _ _ (by omega),getD_tk _ _ (by omega)]
     exact hX j (by omega)
    ·have:=hD j (by rw [l3,List.length_append]; omega)
     rwa [l3,getD_fst _ _ _ hj] at this
   ·refine ih (2 * k+1) _ _ _ (asc_drop hp _) l2 (fun e he h1 i hi=>hK e he h1 i (mem_drop hi)) (fun j hj => ?_) (fun j hj => ?_)
    ·rw [List.length_drop] at hj
     rw [getD_dr,getD_dr]
     exact hX (t+j) (by omega)
    ·have:=hD ((tno h (2 * k) (S.take t)).length+j) (by rw [l3,List.length_append]; omega)
     rwa [l3,getD_app,← getD_dr] at this
def pB (c:Nat):List (Nat×Nat)→List Nat→List ByteArray→List ByteArray→List ByteArray
 | [],_,_,_=>[]
 | m::M,S,X,D=>vB c m.1 m.2 (S.take (bl S ((m.2+1) * pw m.1))) (X.take (bl S ((m.2+1) * pw m.1))) D::pB c M (S.drop (bl S ((m.2+1) * pw m.1))) (X.drop (bl S ((m.2+1) * pw m.1))) (D.drop (tno m.1 m.2 (S.take (bl S ((m.2+1) * pw m.1)))).length)
def fB:List (Nat×Nat)→List Nat→List (Nat×Nat)
 | [],_=>[]
 | m::M,S=>tno m.1 m.2 (S.take (bl S ((m.2+1) * pw m.1)))++fB M (S.drop (bl S ((m.2+1) * pw m.1)))
theorem pB_len (c:Nat) : ∀ (M:List (Nat×Nat)) (S:List Nat) (X D:List ByteArray),(pB c M S X D).length=M.length
 | [],_,_,_=>rfl
 | m::M,S,X,D=>by rw [pB,List.length_cons,pB_len,List.length_cons]
theorem row_le {q:Nat} : ∀ {M:List (Nat×Nat)} {p:Nat},Cv.Row q p M→p≤q
 | [],_,h=>Nat.le_of_eq h
 | m::M,p,h=>by
  have:=row_le h.2.2.2
  have h1:=Cv.blk_lt m.1 m.2
  have h2:=h.1
  omega
theorem row_from {q:Nat} : ∀ {M:List (Nat×Nat)} {p:Nat},Cv.Row q p M → ∀ b∈M,p≤b.2 * pw b.1∧(b.2+1) * pw b.1≤q
 | [],_,_,b,hb=>by cases hb
 | m::M,p,h,b,hb=>by
  rcases List.mem_cons.1 hb with rfl | hb
  ·exact ⟨Nat.le_of_eq h.1,row_le h.2.2.2⟩
  ·have:=row_from h.2.2.2 b hb
   have h1:=Cv.blk_lt m.1 m.2
   have h2:=h.1
   exact ⟨by omega,this.2⟩
abbrev Fr (p q:Nat) (S:List Nat):Prop := ∀ i∈S,p≤i∧i<q
theorem fr_low {p q h k:Nat} {S:List Nat} (hp:Asc S) (hS:Fr p q S) (hk:p=k * pw h):In h k (S.take (bl S ((k+1) * pw h))):=fun i hi=>⟨by have:=(hS i (mem_take hi)).1; omega,mem_low hp hi⟩
theorem fr_high {p q x:Nat} {S:List Nat} (hp:Asc S) (hS:Fr p q S):Fr x q (S.drop (bl S x)):=fun i hi=>⟨mem_high hp hi,(hS i (mem_drop hi)).2⟩
theorem flat_eq {f g:Nat×Nat→List (Nat×Nat)} {M:List (Nat×Nat)} (h : ∀ b∈M,f b=g b):M.flatMap f=M.flatMap g:=by
 rw [List.flatMap_def,List.flatMap_def,List.map_congr_left h]
theorem fB_flat {q:Nat} : ∀ {M:List (Nat×Nat)} {p:Nat} {S:List Nat},Cv.Row q p M→Asc S→Fr p q S→fB M S=M.flatMap fun b=>tno b.1 b.2 S
 | [],_,_,_,_,_=>rfl
 | m::M,p,S,h,hp,hS=>by
  rw [fB,List.flatMap_cons,fB_flat h.2.2.2 (asc_drop hp _) (fr_high hp hS)]
  have e1:S.filter (inb m.1 m.2)=S.take (bl S ((m.2+1) * pw m.1)):=by
   rw [← (bl_split _ hp).1]
   refine List.filter_congr fun i hi => ?_
   have:=hS i hi
   have h1:=h.1
   rw [Bool.eq_iff_iff,inb_iff,decide_eq_true_iff]; omega
  rw [← e1,tno_fil]
  congr 1
  refine flat_eq fun b hb => ?_
  have hb1:=row_from h.2.2.2 b hb
  rw [← tno_fil b.1 b.2 S,← tno_fil b.1 b.2 (S.drop _)]
  congr 1
  rw [← (bl_split _ hp).2,List.filter_filter]
  refine List.filter_congr fun i hi => ?_
  rw [Bool.eq_iff_iff,Bool.and_eq_true,inb_iff,decide_eq_true_iff]; omega
theorem pB_nd (c:Nat) (L:List ByteArray) {q:Nat} : ∀ (M:List (Nat×Nat)) (p:Nat) (S:List Nat) (X D D':List ByteArray),Cv.Row q p M→Asc S→Fr p q S→X=S.map (fun i=>L.getD i ByteArray.empty)→D=(fB M S).map (fun b=>nd c L b.1 b.2)++D'→pB c M S X D=M.map fun b=>nd c L b.1 b.2
 | [],_,_,_,_,_,_,_,_,_,_=>rfl
 | m::M,p,S,X,D,D',h,hp,hS,hX,hD=>by
  rw [fB,List.map_append,List.append_assoc] at hD
  rw [pB,List.map_cons,vB_nd c L m.1 m.2 _ _ D _ (asc_take hp _) (fr_low hp hS h.1) (by rw [hX,List.map_take]) hD]
  rw [pB_nd c L M _ _ _ _ D' h.2.2.2 (asc_drop hp _) (fr_high hp hS) (by rw [hX,List.map_drop]) (by rw [hD]; exact List.drop_left' (by rw [List.length_map]))]
theorem pB_tl (c:Nat) (K:List ((Nat×Nat)×ByteArray)) {q:Nat} : ∀ (M:List (Nat×Nat)) (p:Nat) (S:List Nat) (X D:List ByteArray),Cv.Row q p M→Asc S→Fr p q S→(∀ e∈K,0<e.1.1 → ∀ i∈S,¬ (e.1.2 * pw e.1.1≤i∧i<(e.1.2+1) * pw e.1.1))→(∀ j,j<S.length→((0,S.getD j 0),dg c (leafT (X.getD j ByteArray.empty)))∈K)→(∀ j,j<(fB M S).length→((fB M S).getD j (0,0),D.getD j ByteArray.empty)∈K) → ∀ j,j<M.length→Tl c K (M.getD j (0,0)).1 (M.getD j (0,0)).2 ((pB c M S X D).getD j ByteArray.empty)
 | [],_,_,_,_,_,_,_,_,_,_,j,hj=>absurd hj (Nat.not_lt_zero j)
 | m::M,p,S,X,D,h,hp,hS,hK,hX,hD,j,hj=>by
  obtain ⟨t,ht⟩ : ∃ t,bl S ((m.2+1) * pw m.1)=t:=⟨_,rfl⟩
  have htl:t≤S.length:=by rw [← ht]; exact bl_le _ _
  have l1:=fr_low hp hS h.1
  have l2:Fr ((m.2+1) * pw m.1) q (S.drop (bl S ((m.2+1) * pw m.1))):=fr_high hp hS
  rw [ht] at l1 l2
  rw [fB,ht] at hD
  rw [pB,ht]
  cases j with
  | zero =>
   refine vB_tl c K m.1 m.2 _ _ D (asc_take hp _) l1 (fun e he h1 i hi=>hK e he h1 i (mem_take hi)) (fun j hj => ?_) (fun j hj => ?_)
   ·rw [List.length_take] at hj
    rw [getD_tk _ _ (by omega),getD_tk _ _ (by omega)]
    exact hX j (by omega)
   ·have:=hD j (by rw [List.length_append]; omega)
    rwa [getD_fst _ _ _ hj] at this
  | succ j =>
   refine pB_tl c K M _ _ _ _ h.2.2.2 (asc_drop hp _) l2 (fun e he h1 i hi=>hK e he h1 i (mem_drop hi)) (fun j hj => ?_) (fun j hj => ?_) j (by rw [List.length_cons] at hj; omega)
   ·rw [List.length_drop] at hj
    rw [getD_dr,getD_dr]
    exact hX (t+j) (by omega)
   ·have:=hD ((tno m.1 m.2 (S.take t)).length+j) (by rw [List.length_append]; omega)
    rwa [getD_app,← getD_dr] at this
theorem pB_size {c:Nat} (hc:c≤32) : ∀ (M:List (Nat×Nat)) (S:List Nat) (X D:List ByteArray),(∀ s∈D,s.size=c)→(fB M S).length≤D.length → ∀ s∈pB c M S X D,s.size=c
 | [],_,_,_,_,_,s,hs=>by cases hs
 | m::M,S,X,D,hD,hl,s,hs=>by
  rw [fB,List.length_append] at hl
  rw [pB] at hs
  rcases List.mem_cons.1 hs with rfl | hs
  ·refine vB_size hc _ _ _ _ _ hD ?_
   by_cases h0:S.take (bl S ((m.2+1) * pw m.1))=[]
   ·rw [h0,tno_nil] at hl
    exact .inl (by rw [List.length_singleton] at hl; omega)
   ·exact .inr h0
  ·exact pB_size hc M _ _ _ (fun s hs=>hD s ((List.drop_sublist _ _).subset hs)) (by rw [List.length_drop]; omega) s hs
theorem chain_asc : ∀ {S:List Nat} {x n:Nat},Cv.Chain x S n→Asc S
 | [],_,_,_=>List.Pairwise.nil
 | _::_,_,_,h=>List.pairwise_cons.2 ⟨fun j hj=>(Cv.chain_mem h.2 j hj).1,chain_asc h.2⟩
end Go.Proofs.YtipcenbndhnnhaaGreatDoor
