/- Own work. -/
import Derived.Shelf.Strings.OnBuilder
import Derived.Shelf.Strings.Repeat
import Derived.Test.YtoblgjledefdbaaGreatDoorProg
import Derived.Test.YtoblgjledefdbaaGreatDoorQf22
namespace Go.Proofs.YtoblgjledefdbaaGreatDoor.St
open Go.Shelf
def Tryz.lays156_ren:Go.Shelf.Ren:=⟨fun | 156=>173 | 165=>269 | 166=>270 | 169=>271 | 240=>345 | 241=>346 | 276=>395 | 277=>396 | n=>n,fun | 31=>22 | 9=>9 | 3=>3 | 4=>4 | 0=>0 | 20=>20 | 72=>330 | 76=>334 | 70=>328 | 37=>127 | 75=>333 | 127=>392 | 164=>320 | 5=>5 | 80=>336 | n=>n,fun | n=>n⟩
theorem Tryz.lays156:Go.Proofs.Lays.n156 Tryz.prog Tryz.lays156_ren := {
 mixed:=by kernel_rfl
 f156:=Tryz.func173.trans (congrArg some (by kernel_rfl))
 f165:=Tryz.func269.trans (congrArg some (by kernel_rfl))
 f166:=Tryz.func270.trans (congrArg some (by kernel_rfl))
 f169:=Tryz.func271.trans (congrArg some (by kernel_rfl))
 f240:=Tryz.func345.trans (congrArg some (by kernel_rfl))
 f241:=Tryz.func346.trans (congrArg some (by kernel_rfl))
 f276:=Tryz.func395.trans (congrArg some (by kernel_rfl))
 f277:=Tryz.func396.trans (congrArg some (by kernel_rfl))
 t0:=Tryz.underlying0
 a0:=Tryz.isAgg0
 z0:=Tryz.sizeOf0
 v0:=Tryz.zeroValue0
 t3:=Tryz.underlying3
 a3:=Tryz.isAgg3
 z3:=Tryz.sizeOf3
 v3:=Tryz.zeroValue3
 t4:=Tryz.underlying4
 a4:=Tryz.isAgg4
 z4:=Tryz.sizeOf4
 v4:=Tryz.zeroValue4
 t9:=Tryz.underlying9
 a9:=Tryz.isAgg9
 z9:=Tryz.sizeOf9
 v9:=Tryz.zeroValue9
 t20:=Tryz.underlying20
 a20:=Tryz.isAgg20
 z20:=Tryz.sizeOf20
 v20:=Tryz.zeroValue20
 t31:=Tryz.underlying22
 a31:=Tryz.isAgg22
 z31:=Tryz.sizeOf22
 v31:=Tryz.zeroValue22
 t37:=Tryz.underlying127
 a37:=Tryz.isAgg127
 z37:=Tryz.sizeOf127
 v37:=Tryz.zeroValue127
 t70:=Tryz.underlying328
 a70:=Tryz.isAgg328
 z70:=Tryz.sizeOf328
 v70:=Tryz.zeroValue328
 t72:=Tryz.underlying330
 a72:=Tryz.isAgg330
 z72:=Tryz.sizeOf330
 v72:=Tryz.zeroValue330
 t75:=Tryz.underlying333
 a75:=Tryz.isAgg333
 z75:=Tryz.sizeOf333
 v75:=Tryz.zeroValue333
 t76:=Tryz.underlying334
 a76:=Tryz.isAgg334
 z76:=Tryz.sizeOf334
 v76:=Tryz.zeroValue334
 t127:=Tryz.underlying392
 a127:=Tryz.isAgg392
 z127:=Tryz.sizeOf392
 v127:=Tryz.zeroValue392
 t164:=Tryz.underlying320
 a164:=Tryz.isAgg320
 z164:=Tryz.sizeOf320
 v164:=Tryz.zeroValue320 }
theorem Tryz.Builder_Extra_156:Builder.Extra Tryz.prog Tryz.lays156_ren := {
 sizeBuilder:=by kernel_rfl
 liesBuilder:=by kernel_rfl
 t5:=Tryz.underlying5
 a5:=Tryz.isAgg5
 z5:=Tryz.sizeOf5
 v5:=Tryz.zeroValue5
 infoByte:=by kernel_rfl
 cellsByte:=by kernel_rfl
 sizeByte:=by kernel_rfl
 neB5:=by decide }
open Go.RowKit in
theorem Tryz.strings_Join_none (a:Option Addr) (c:Nat) (sep:ByteArray) (w:World) :
  Calls Tryz.prog 173 #[.slice a 0 c,.string sep] w fun e w'=>e = .returned (.string ⟨#[]⟩)∧w'=w:=Any.strings_Join_none Tryz.lays156 Tryz.Builder_Extra_156 a c sep w
open Go.RowKit in
theorem Tryz.strings_Join (bk o c:Nat) (xs:List ByteArray) (sep:ByteArray) (w:World) (hcells : ∀ (j:Nat) x,xs[j]? = some x→w.cell? ⟨bk,o+j,none⟩=some (.string x)) (hbk:bk<w.heap.size) (hN:xs.length≤140737488355328) (hcap:xs.length≤c) (hlen:(Lib.join (xs.map (·.data.toList)) sep.data.toList).length≤140737488355328) :
  Calls Tryz.prog 173 #[.slice (some ⟨bk,o,none⟩) xs.length c,.string sep] w fun e w'=>e = .returned (.string ⟨(Lib.join (xs.map (·.data.toList)) sep.data.toList).toArray⟩)∧Below w.heap.size w w':=Any.strings_Join Tryz.lays156 Tryz.Builder_Extra_156 bk o c xs sep w hcells hbk hN hcap hlen
def Tryz.lays105_ren:Go.Shelf.Ren:=⟨fun | 105=>242 | 212=>325 | 99=>326 | 165=>269 | 166=>270 | 170=>327 | 169=>271 | 263=>390 | 264=>391 | 206=>392 | 240=>345 | 241=>346 | 276=>395 | 277=>396 | n=>n,fun | 9=>9 | 3=>3 | 4=>4 | 20=>20 | 0=>0 | 46=>276 | 109=>380 | 5=>5 | 72=>330 | 76=>334 | 51=>110 | 146=>414 | 53=>48 | 148=>416 | 70=>328 | 37=>127 | 75=>333 | 127=>392 | 164=>320 | 80=>336 | n=>n,fun | n=>n⟩
theorem Tryz.lays105:Go.Proofs.Lays.n105 Tryz.prog Tryz.lays105_ren := {
 mixed:=by kernel_rfl
 f99:=Tryz.func326.trans (congrArg some (by kernel_rfl))
 f105:=Tryz.func242.trans (congrArg some (by kernel_rfl))
 f165:=Tryz.func269.trans (congrArg some (by kernel_rfl))
 f166:=Tryz.func270.trans (congrArg some (by kernel_rfl))
 f169:=Tryz.func271.trans (congrArg some (by kernel_rfl))
 f170:=Tryz.func327.trans (congrArg some (by kernel_rfl))
 f206:=Tryz.func392.trans (congrArg some (by kernel_rfl))
 f212:=Tryz.func325.trans (congrArg some (by kernel_rfl))
 f240:=Tryz.func345.trans (congrArg some (by kernel_rfl))
 f241:=Tryz.func346.trans (congrArg some (by kernel_rfl))
 f263:=Tryz.func390.trans (congrArg some (by kernel_rfl))
 f264:=Tryz.func391.trans (congrArg some (by kernel_rfl))
 f276:=Tryz.func395.trans (congrArg some (by kernel_rfl))
 f277:=Tryz.func396.trans (congrArg some (by kernel_rfl))
 t0:=Tryz.underlying0
 a0:=Tryz.isAgg0
 z0:=Tryz.sizeOf0
 v0:=Tryz.zeroValue0
 t3:=Tryz.underlying3
 a3:=Tryz.isAgg3
 z3:=Tryz.sizeOf3
 v3:=Tryz.zeroValue3
 t4:=Tryz.underlying4
 a4:=Tryz.isAgg4
 z4:=Tryz.sizeOf4
 v4:=Tryz.zeroValue4
 t5:=Tryz.underlying5
 a5:=Tryz.isAgg5
 z5:=Tryz.sizeOf5
 v5:=Tryz.zeroValue5
 t9:=Tryz.underlying9
 a9:=Tryz.isAgg9
 z9:=Tryz.sizeOf9
 v9:=Tryz.zeroValue9
 t20:=Tryz.underlying20
 a20:=Tryz.isAgg20
 z20:=Tryz.sizeOf20
 v20:=Tryz.zeroValue20
 t37:=Tryz.underlying127
 a37:=Tryz.isAgg127
 z37:=Tryz.sizeOf127
 v37:=Tryz.zeroValue127
 t46:=Tryz.underlying276
 a46:=Tryz.isAgg276
 z46:=Tryz.sizeOf276
 v46:=Tryz.zeroValue276
 t51:=Tryz.underlying110
 a51:=Tryz.isAgg110
 z51:=Tryz.sizeOf110
 v51:=Tryz.zeroValue110
 t53:=Tryz.underlying48
 a53:=Tryz.isAgg48
 z53:=Tryz.sizeOf48
 v53:=Tryz.zeroValue48
 t70:=Tryz.underlying328
 a70:=Tryz.isAgg328
 z70:=Tryz.sizeOf328
 v70:=Tryz.zeroValue328
 t72:=Tryz.underlying330
 a72:=Tryz.isAgg330
 z72:=Tryz.sizeOf330
 v72:=Tryz.zeroValue330
 t75:=Tryz.underlying333
 a75:=Tryz.isAgg333
 z75:=Tryz.sizeOf333
 v75:=Tryz.zeroValue333
 t76:=Tryz.underlying334
 a76:=Tryz.isAgg334
 z76:=Tryz.sizeOf334
 v76:=Tryz.zeroValue334
 t109:=Tryz.underlying380
 a109:=Tryz.isAgg380
 z109:=Tryz.sizeOf380
 v109:=Tryz.zeroValue380
 t127:=Tryz.underlying392
 a127:=Tryz.isAgg392
 z127:=Tryz.sizeOf392
 v127:=Tryz.zeroValue392
 t146:=Tryz.underlying414
 a146:=Tryz.isAgg414
 z146:=Tryz.sizeOf414
 v146:=Tryz.zeroValue414
 t148:=Tryz.underlying416
 a148:=Tryz.isAgg416
 z148:=Tryz.sizeOf416
 v148:=Tryz.zeroValue416
 t164:=Tryz.underlying320
 a164:=Tryz.isAgg320
 z164:=Tryz.sizeOf320
 v164:=Tryz.zeroValue320 }
theorem Tryz.Builder_Extra_105:Builder.Extra Tryz.prog Tryz.lays105_ren := {
 sizeBuilder:=by kernel_rfl
 liesBuilder:=by kernel_rfl
 t5:=Tryz.underlying5
 a5:=Tryz.isAgg5
 z5:=Tryz.sizeOf5
 v5:=Tryz.zeroValue5
 infoByte:=by kernel_rfl
 cellsByte:=by kernel_rfl
 sizeByte:=by kernel_rfl
 neB5:=by decide }
open Go.RowKit Go.Lib in
theorem Tryz.strings_Repeat_main (s:ByteArray) (c:Nat) (w:World) (hc2:2≤c) (hc:c≤9223372036854775807) (hlen:s.size * c≤140737488355328) (h0:0<s.size) :
  Calls Tryz.prog 242 #[.string s,.int .i64 c] w fun e w'=>e = .returned (.string ⟨(Lib.repeatL s.data.toList c).toArray⟩)∧Below w.heap.size w w':=Any.strings_Repeat_main Tryz.lays105 Tryz.Builder_Extra_105 s c w hc2 hc hlen h0
end Go.Proofs.YtoblgjledefdbaaGreatDoor.St
namespace Go.Proofs.YtoblgjledefdbaaGreatDoor.St
open Go.RowKit
open Rc
attribute [local go_sem ↓] Go.wp_at_zero Go.wp_at_succ
section
variable {q p:Nat} {T:Nat→Prop} {D:DV} {S:SV}
theorem SkM.cell {w W:World} {D':DV} {S':SV} (h:SkM w W q p T D' S') {b i:Nat} {v:Value} (hc:w.cell? ⟨b,i,none⟩=some v) (hT : ¬ T b):W.cell? ⟨b,i,none⟩=some v:=by
 obtain ⟨T',_,_,h3⟩:=h
 exact (World.cell?_of_block (a:=⟨b,i,none⟩) (h3.block b (World.block_lt_of_cell? _ _ hc) hT)).trans hc
theorem skm_join {w w1 w2:World} {T1:Nat→Prop} {D2:DV} {S2:SV} (a2 : ∀ x,T1 x→T x∨w.heap.size≤x) (a3:Upo T w w1) (h:SkM w1 w2 q p T1 D2 S2):SkM w w2 q p T D2 S2:=by
 obtain ⟨T2,b1,b2,b3⟩:=h
 refine ⟨T2,b1,fun x hx => ?_,a3.trans b3 (fun x hx ht => ?_)⟩
 ·rcases b2 x hx with e | e
  ·exact a2 x e
  ·exact .inr (Nat.le_trans a3.size e)
 ·rcases a2 x ht with e | e
  ·exact e
  ·omega
theorem SkM.limp {w W:World} {D':DV} (h:SkM w W q p T D' S):(W.cell? ⟨q,4,none⟩=some (.bool S.lame)∧W.frozen? ⟨q,4,none⟩=false)∧SkM w (W.setCell ⟨q,4,none⟩ (.bool true)) q p T D' { S with lame:=true } := by
 obtain ⟨T',⟨S0,v,d1,d2,d3,d4,d5⟩,h2,h3⟩:=h
 refine ⟨⟨(five_at d2.blk).2.2.2.2,frozen_of_row W q 4 _ _ d2.blk⟩,T',⟨S0,v,?_,⟨heap_setCell_same W q 4 _ _ _ d2.blk,row_keep d2.own (fun g hg=>Below.heap_setCell _ _ _ _ (d4 g hg).1),d2.k1,d2.k2,d2.few,d2.low⟩,d3,d4,d5⟩,h2,h3.set q 4 _ ?_⟩
 ·exact d1.same (fun x hx=>Below.heap_setCell _ _ _ _ (fun e=>d3 (show S0 q from (show x=q from e) ▸ hx)))
 ·exact h2 q ((d5 q).2 (.inr (.inl rfl)))
theorem bdz (w:World):Below w.heap.size w w.drew:=bdw (Below.refl _ _)
set_option maxRecDepth 100000 in
theorem wb_any (w:World) (h:Sk w q p T D S) (hr:Rmy D) (s t:ByteArray) (hs:s.size≤maxLen) (ht:t.size≤140737488355328) (n:Nat) (hn:n≤9223372036854775807) (HL:Hid (∀ W,Sk W q p T D S→Calls Tryz.prog 155 #[.pointer (some ⟨q,0,none⟩),.string s] W fun e w'=>e = .returned (.int .i64 (n:Int))∧w'=W)) (D':DV) (r:Int) (hD:wrD D s.data.toList (n:Int) t.data.toList=(D',r)) :
  Calls Tryz.prog 171 #[.pointer (some ⟨q,0,none⟩),.string s,.string t] w fun e w'=>e = .returned (.int .i64 r)∧SkM w w' q p T D' S:=by
 have HW:Hid (∀ W,Sk W q p T D S→Below w.heap.size w W→Calls Tryz.prog 268 #[.pointer (some ⟨p,0,none⟩),.string s,.int .i64 (n:Int),.string t] W fun e w'=>e = .returned (.int .i64 r)∧SkM w w' q p T D' S):=fun W hW hb=>by
  have:=hW.write hr s t hs n (by omega) (by omega) ht
  rw [hD] at this
  exact this.mono fun e w' z=>⟨z.1,z.2.first hb⟩
 have HC:Hid (∀ W,Sk W q p T D S→W.cell? ⟨q,0,none⟩=some (.pointer (some ⟨p,0,none⟩))):=fun W hW=>by
  obtain ⟨_,_,⟨c0,_⟩,_⟩:=hW.cells
  exact c0
 have HC3:Hid (∀ W,SkM w W q p T D' S→W.cell? ⟨q,0,none⟩=some (.pointer (some ⟨p,0,none⟩))):=fun W hW=>by
  obtain ⟨T',hW,_⟩:=hW
  obtain ⟨_,_,⟨c0,_⟩,_⟩:=hW.cells
  exact c0
 have tw:=h.next (bdz w)
 have ub:=bdz w
 have c0:=HC.out _ h
 clear h hr hs ht hn hD
 go_enter Tryz.func171,Tryz.ntmps171
 go_upto_region 1 with (fail)
 go_region_held3 (fun Z=>Z.cell? ⟨q,0,none⟩=some (.pointer (some ⟨p,0,none⟩))) (first | assumption | (with_reducible exact HC3.out _ t3) | (with_reducible exact HC.out _ tw)) (first
  | (go_at_call 155; (with_reducible refine (HL.out _ tw).mono ?_); rintro e w2 ⟨rfl,rfl⟩)
  | (go_at_call 268; (with_reducible refine (HW.out _ tw ub).mono ?_); rintro e w3 ⟨rfl,t3⟩))
 all_goals
  go_wp2
  go_ret
  exact ⟨rfl,t3⟩
theorem join_any (w:World) (ao:Option Addr) (b off len cap:Nat) (ss:List ByteArray) (hr:Rc.RdS w ao b off len ss) (hc:len≤cap) (hl:len≤1000) (hf:(Rc.flat ss).length≤140737488355328) :
  Calls Tryz.prog 173 #[.slice ao len cap,.string ⟨#[]⟩] w fun e w'=>e = .returned (.string (tx (Rc.flat ss)))∧Below w.heap.size w w':=by
 have hj:Lib.join (ss.map (·.data.toList)) []=Rc.flat ss:=by
  cases ss with
  | nil=>rfl
  | cons d r=>rw [List.map_cons,Lib.join_cons]; simp [Lib.joinTail,Rc.flat]; rfl
 by_cases h0:0<len
 ·obtain rfl:=hr.ptr h0
  have hlen:=hr.hl
  subst hlen
  have:=Tryz.strings_Join b off cap ss ⟨#[]⟩ w (fun j x hx=>hr.rng j _ (by rw [List.getElem?_map,hx]; rfl)) (hr.lt h0) (by omega) hc (by rw [show (ByteArray.mk #[]).data.toList=[] from rfl,hj]; exact hf)
  rw [show (ByteArray.mk #[]).data.toList=[] from rfl,hj] at this
  exact this
 ·obtain rfl:len=0:=by omega
  have:ss=[]:=List.length_eq_zero_iff.1 hr.hl
  subst this
  exact (Tryz.strings_Join_none ao cap ⟨#[]⟩ w).mono fun e w' h=>⟨h.1,by rw [h.2]; exact Below.refl _ _⟩
set_option maxRecDepth 100000 in
theorem act1_any (w:World) (h:Sk w q p T D S) (hr:Rmy D) (bs bp:Nat) (hcs:w.cell? ⟨bs,0,none⟩=some (.pointer (some ⟨q,0,none⟩))) (t:ByteArray) (hcp:w.cell? ⟨bp,0,none⟩=some (.string t)) (ht:t.size≤140737488355328) (D':DV) (r:Int) (hD:wrD D nmI (lst S.ends:Int) t.data.toList=(D',r)) :
  Calls Tryz.prog 170 #[.pointer (some ⟨bs,0,none⟩),.pointer (some ⟨bp,0,none⟩)] w fun e w'=>e = .returned (.int .i64 r)∧SkM w w' q p T D' S:=by
 have HW:=hide (wb_any w h hr ⟨#[105,116,101,109,115]⟩ t (by decide) ht (lst S.ends) (by have:=h.small.2.2.2.2.2; omega) (fun W hW=>length_items W hW) D' r hD)
 clear h hr hD
 go_enter Tryz.func170,Tryz.ntmps170
 go_wp2_with (go_at_call 171; refine HW.out.mono ?_; rintro e w1 ⟨rfl,t1⟩)
 go_ret
 exact ⟨rfl,t1⟩
set_option maxRecDepth 100000 in
theorem act2_any (w:World) (h:Sk w q p T D S) (hr:Rmy D) (bs br:Nat) (hcs:w.cell? ⟨bs,0,none⟩=some (.pointer (some ⟨q,0,none⟩))) (ao:Option Addr) (b off len cap:Nat) (ss:List ByteArray) (hcr:w.cell? ⟨br,0,none⟩=some (.slice ao len cap)) (hrd:Rc.RdS w ao b off len ss) (hc:len≤cap) (hl:len≤1000) (hf:(Rc.flat ss).length≤1000000) (ns : ¬ T bs) (nr : ¬ T br) (D':DV) (r:Int) (hD:wrD D nmN ((nn S.ends.length * 40:Nat):Int) (Rc.flat ss)=(D',r)) :
  Calls Tryz.prog 172 #[.pointer (some ⟨bs,0,none⟩),.pointer (some ⟨br,0,none⟩)] w fun e w'=>e = .returned (.int .i64 r)∧SkM w w' q p T D' S:=by
 have HJ:Hid (∀ W,Below w.heap.size w W→Calls Tryz.prog 173 #[.slice ao len cap,.string ⟨#[]⟩] W fun e w'=>e = .returned (.string (tx (Rc.flat ss)))∧Below w.heap.size w w'):=fun W hW=>(join_any W ao b off len cap ss (hrd.next hW (Nat.le_refl _)) hc hl (by omega)).mono fun e w' z=>⟨z.1,bnext hW z.2⟩
 have HW:Hid (∀ W,Below w.heap.size w W→Calls Tryz.prog 171 #[.pointer (some ⟨q,0,none⟩),.string ⟨#[110,111,100,101,115]⟩,.string (tx (Rc.flat ss))] W fun e w'=>e = .returned (.int .i64 r)∧SkM w w' q p T D' S):=fun W hW =>
  (wb_any W (h.next hW) hr ⟨#[110,111,100,101,115]⟩ (tx (Rc.flat ss)) (by decide) (by rw [tx_size]; omega) (nn S.ends.length * 40) (by have:=nn_le S.ends.length; have:=h.small.2.2.1; omega) (fun W hW=>length_nodes W hW) D' r hD).mono fun e w' z=>⟨z.1,z.2.first hW⟩
 have HC:Hid (∀ W,Below w.heap.size w W→W.cell? ⟨bs,0,none⟩=some (.pointer (some ⟨q,0,none⟩))∧W.cell? ⟨br,0,none⟩=some (.slice ao len cap)):=fun W hW=>⟨(hW.cell (p:=⟨bs,0,none⟩) (World.block_lt_of_cell? _ _ hcs)).trans hcs,(hW.cell (p:=⟨br,0,none⟩) (World.block_lt_of_cell? _ _ hcr)).trans hcr⟩
 have HC3:Hid (∀ W,SkM w W q p T D' S→W.cell? ⟨bs,0,none⟩=some (.pointer (some ⟨q,0,none⟩))∧W.cell? ⟨br,0,none⟩=some (.slice ao len cap)):=fun W hW=>⟨hW.cell hcs ns,hW.cell hcr nr⟩
 have u:=bdz w
 clear h hr hD hrd hc hl hf
 go_enter Tryz.func172,Tryz.ntmps172
 go_upto_region 1 with (fail)
 go_region_held3 (fun Z=>Z.cell? ⟨bs,0,none⟩=some (.pointer (some ⟨q,0,none⟩))∧Z.cell? ⟨br,0,none⟩=some (.slice ao len cap)) (first | assumption | (with_reducible exact HC3.out _ t3) | (with_reducible exact HC.out _ u)) (first
  | (go_at_call 173; (with_reducible refine (HJ.out _ u).mono ?_); rintro e w2 ⟨rfl,u⟩)
  | (go_at_call 171; (with_reducible refine (HW.out _ u).mono ?_); rintro e w3 ⟨rfl,t3⟩))
 all_goals
  go_wp2
  go_ret
  exact ⟨rfl,t3⟩
set_option maxRecDepth 100000 in
theorem act5_any (w:World) (h:Sk w q p T D S) (hr:Rmy D) (bs bm:Nat) (hcs:w.cell? ⟨bs,0,none⟩=some (.pointer (some ⟨q,0,none⟩))) (m:MV) (h1:m.size<18446744073709551616) (h2:m.items<18446744073709551616) (h3:m.nodes<18446744073709551616) (hcm:w.cell? ⟨bm,0,none⟩=some (.int .i64 m.k)∧w.cell? ⟨bm,1,none⟩=some (.int .u64 (m.size:Int))∧w.cell? ⟨bm,2,none⟩=some (.int .u64 (m.items:Int))∧w.cell? ⟨bm,3,none⟩=some (.int .u64 (m.nodes:Int))∧w.cell? ⟨bm,4,none⟩=some (.int .u32 (m.chain.toNat:Int))) (ns : ¬ T bs) (nm : ¬ T bm) (D':DV) (r:Int) (hD:wrD D nmM ((S.ends.length * 64:Nat):Int) (mrk m)=(D',r)) :
  Calls Tryz.prog 176 #[.pointer (some ⟨bs,0,none⟩),.pointer (some ⟨bm,0,none⟩)] w fun e w'=>e = .returned (.int .i64 r)∧SkM w w' q p T D' S:=by
 obtain ⟨m0,m1,m2,m3,m4⟩:=hcm
 have HJ:Hid (∀ W,Below w.heap.size w W→Calls Tryz.prog 177 #[.agg #[.int .i64 m.k,.int .u64 (m.size:Int),.int .u64 (m.items:Int),.int .u64 (m.nodes:Int),.int .u32 (m.chain.toNat:Int)]] W fun e w'=>e = .returned (.string (tx (mrk m)))∧Below w.heap.size w w'):=fun W hW=>(mark_any W m h1 h2 h3 (tx (mrk m)) rfl).mono fun e w' z=>⟨z.1,bnext hW z.2⟩
 have hml:(mrk m).length≤64:=by
  unfold mrk
  split
  ·rw [sld_len,bodyM_len]; omega
  ·simp
 have HW:Hid (∀ W,Below w.heap.size w W→Calls Tryz.prog 171 #[.pointer (some ⟨q,0,none⟩),.string ⟨#[109,97,114,107,115]⟩,.string (tx (mrk m))] W fun e w'=>e = .returned (.int .i64 r)∧SkM w w' q p T D' S):=fun W hW =>
  (wb_any W (h.next hW) hr ⟨#[109,97,114,107,115]⟩ (tx (mrk m)) (by decide) (by rw [tx_size]; omega) (S.ends.length * 64) (by have:=h.small.2.2.1; omega) (fun W hW=>length_marks W hW) D' r hD).mono fun e w' z=>⟨z.1,z.2.first hW⟩
 have up : ∀ {b i:Nat} {v:Value} {W:World},w.cell? ⟨b,i,none⟩=some v→Below w.heap.size w W→W.cell? ⟨b,i,none⟩=some v:=fun {b i v W} hc hW=>(hW.cell (p:=⟨b,i,none⟩) (World.block_lt_of_cell? _ _ hc)).trans hc
 have HC:Hid (∀ W,Below w.heap.size w W→W.cell? ⟨bs,0,none⟩=some (.pointer (some ⟨q,0,none⟩))∧W.cell? ⟨bm,0,none⟩=some (.int .i64 m.k)∧W.cell? ⟨bm,1,none⟩=some (.int .u64 (m.size:Int))∧W.cell? ⟨bm,2,none⟩=some (.int .u64 (m.items:Int))∧W.cell? ⟨bm,3,none⟩=some (.int .u64 (m.nodes:Int))∧W.cell? ⟨bm,4,none⟩=some (.int .u32 (m.chain.toNat:Int))):=fun W hW=>⟨up hcs hW,up m0 hW,up m1 hW,up m2 hW,up m3 hW,up m4 hW⟩
 have HC3:Hid (∀ W,SkM w W q p T D' S→W.cell? ⟨bs,0,none⟩=some (.pointer (some ⟨q,0,none⟩))∧W.cell? ⟨bm,0,none⟩=some (.int .i64 m.k)∧W.cell? ⟨bm,1,none⟩=some (.int .u64 (m.size:Int))∧W.cell? ⟨bm,2,none⟩=some (.int .u64 (m.items:Int))∧W.cell? ⟨bm,3,none⟩=some (.int .u64 (m.nodes:Int))∧W.cell? ⟨bm,4,none⟩=some (.int .u32 (m.chain.toNat:Int))):=fun W hW=>⟨hW.cell hcs ns,hW.cell m0 nm,hW.cell m1 nm,hW.cell m2 nm,hW.cell m3 nm,hW.cell m4 nm⟩
 have u:=bdz w
 clear h hr hD up hml h1 h2 h3
 obtain ⟨mk,ma,mb,mc,md⟩:=m
 simp only at *
 generalize tx (mrk ⟨mk,ma,mb,mc,md⟩)=tm at *
 generalize md.toNat=mdn at *
 go_enter Tryz.func176,Tryz.ntmps176
 go_upto_region 1 with (fail)
 go_region_held3 (fun Z=>Z.cell? ⟨bs,0,none⟩=some (.pointer (some ⟨q,0,none⟩))∧Z.cell? ⟨bm,0,none⟩=some (.int .i64 mk)∧Z.cell? ⟨bm,1,none⟩=some (.int .u64 (ma:Int))∧Z.cell? ⟨bm,2,none⟩=some (.int .u64 (mb:Int))∧Z.cell? ⟨bm,3,none⟩=some (.int .u64 (mc:Int))∧Z.cell? ⟨bm,4,none⟩=some (.int .u32 (mdn:Int))) (first | assumption | (with_reducible exact HC3.out _ t3) | (with_reducible exact HC.out _ u)) (first
  | (go_at_call 177; (with_reducible refine (HJ.out _ u).mono ?_); rintro e w2 ⟨rfl,u⟩)
  | (go_at_call 171; (with_reducible refine (HW.out _ u).mono ?_); rintro e w3 ⟨rfl,t3⟩))
 all_goals
  go_wp2
  go_ret
  exact ⟨rfl,t3⟩
set_option maxRecDepth 100000 in
theorem act3_any (w:World) (h:Sk w q p T D S) (hr:Rmy D) (bs:Nat) (hcs:w.cell? ⟨bs,0,none⟩=some (.pointer (some ⟨q,0,none⟩))) (D':DV) (r:Int) (hD:synD D nmI=(D',r)) :
  Calls Tryz.prog 174 #[.pointer (some ⟨bs,0,none⟩)] w fun e w'=>e = .returned (.int .i64 r)∧SkM w w' q p T D' S:=by
 have HW:Hid (Calls Tryz.prog 157 #[.pointer (some ⟨p,0,none⟩),.string ⟨#[105,116,101,109,115]⟩] w fun e w'=>e = .returned (.int .i64 r)∧SkM w w' q p T D' S):=by
  have:=h.sync hr ⟨#[105,116,101,109,115]⟩ (by decide)
  rw [show (ByteArray.mk #[105,116,101,109,115]).data.toList=nmI from rfl,hD] at this
  exact this
 obtain ⟨_,_,⟨c0,_⟩,_⟩:=h.cells
 clear h hr hD
 go_enter Tryz.func174,Tryz.ntmps174
 go_wp2_with (go_at_call 157; refine HW.out.mono ?_; rintro e w1 ⟨rfl,t1⟩)
 go_ret
 exact ⟨rfl,t1⟩
set_option maxRecDepth 100000 in
theorem act4_any (w:World) (h:Sk w q p T D S) (hr:Rmy D) (bs:Nat) (hcs:w.cell? ⟨bs,0,none⟩=some (.pointer (some ⟨q,0,none⟩))) (D':DV) (r:Int) (hD:synD D nmN=(D',r)) :
  Calls Tryz.prog 175 #[.pointer (some ⟨bs,0,none⟩)] w fun e w'=>e = .returned (.int .i64 r)∧SkM w w' q p T D' S:=by
 have HW:Hid (Calls Tryz.prog 157 #[.pointer (some ⟨p,0,none⟩),.string ⟨#[110,111,100,101,115]⟩] w fun e w'=>e = .returned (.int .i64 r)∧SkM w w' q p T D' S):=by
  have:=h.sync hr ⟨#[110,111,100,101,115]⟩ (by decide)
  rw [show (ByteArray.mk #[110,111,100,101,115]).data.toList=nmN from rfl,hD] at this
  exact this
 obtain ⟨_,_,⟨c0,_⟩,_⟩:=h.cells
 clear h hr hD
 go_enter Tryz.func175,Tryz.ntmps175
 go_wp2_with (go_at_call 157; refine HW.out.mono ?_; rintro e w1 ⟨rfl,t1⟩)
 go_ret
 exact ⟨rfl,t1⟩
set_option maxRecDepth 100000 in
theorem act6_any (w:World) (h:Sk w q p T D S) (hr:Rmy D) (bs:Nat) (hcs:w.cell? ⟨bs,0,none⟩=some (.pointer (some ⟨q,0,none⟩))) (D':DV) (r:Int) (hD:synD D nmM=(D',r)) :
  Calls Tryz.prog 178 #[.pointer (some ⟨bs,0,none⟩)] w fun e w'=>e = .returned (.int .i64 r)∧SkM w w' q p T D' S:=by
 have HW:Hid (Calls Tryz.prog 157 #[.pointer (some ⟨p,0,none⟩),.string ⟨#[109,97,114,107,115]⟩] w fun e w'=>e = .returned (.int .i64 r)∧SkM w w' q p T D' S):=by
  have:=h.sync hr ⟨#[109,97,114,107,115]⟩ (by decide)
  rw [show (ByteArray.mk #[109,97,114,107,115]).data.toList=nmM from rfl,hD] at this
  exact this
 obtain ⟨_,_,⟨c0,_⟩,_⟩:=h.cells
 clear h hr hD
 go_enter Tryz.func178,Tryz.ntmps178
 go_wp2_with (go_at_call 157; refine HW.out.mono ?_; rintro e w1 ⟨rfl,t1⟩)
 go_ret
 exact ⟨rfl,t1⟩
end
end Go.Proofs.YtoblgjledefdbaaGreatDoor.St
namespace Go.Proofs.YtoblgjledefdbaaGreatDoor.St
open Go.RowKit
abbrev dv:Value := .slice none 0 0
def resO (r:Result Value):Option (Value×World) :=
 match r with
 | .ok v w=>some (v,w)
 | .halt _ _=>none
theorem resO_ok (r:Result Value) (hs:(resO r).isSome=true) (d:Value×World):r = .ok ((resO r).getD d).1 ((resO r).getD d).2:=by
 cases r with
 | ok v w=>rfl
 | halt x w=>cases hs
noncomputable def appR (t ty:Nat) (v u:Value) (w:World):Option (Value×World):=resO ((Builtin.append_ #[t,t] ty #[v,u]).run Tryz.prog w)
theorem appR_of {t ty:Nat} {v u v':Value} {w w':World} (h:(Builtin.append_ #[t,t] ty #[v,u]).run Tryz.prog w = .ok v' w'):appR t ty v u w=some (v',w'):=congrArg resO h
theorem run_appR (t ty:Nat) (v u:Value) (w:World) (hs:(appR t ty v u w).isSome=true):(Builtin.append_ #[t,t] ty #[v,u]).run Tryz.prog w = .ok ((appR t ty v u w).getD (dv,w)).1 ((appR t ty v u w).getD (dv,w)).2:=resO_ok _ hs (dv,w)
theorem exec_appR (ρ:Operand→Value) (d:Option Tmp) (s x:Operand) (t ty:Nat) (ps:String) (af:Array Edge) (gd:Option (Nat×Bool)) (w:World) (hs:(appR t ty (ρ s) (ρ x) w).isSome=true) :
  (execOp ρ { dst:=d,op:=Op.call { callee:=Callee.builtin Builtin.append,args:=#[s,x],argTypes:=#[t,t] },type:=ty,pos:=ps,after:=af,guard:=gd }).run Tryz.prog w = .ok (.value ((appR t ty (ρ s) (ρ x) w).getD (dv,w)).1) ((appR t ty (ρ s) (ρ x) w).getD (dv,w)).2:=by
 have hrun:=run_appR t ty (ρ s) (ρ x) w hs
 generalize (appR t ty (ρ s) (ρ x) w).getD (dv,w)=r at *
 simp [execOp,resolve,invoke,builtin,hrun,Result.andThen]
end Go.Proofs.YtoblgjledefdbaaGreatDoor.St
namespace Go.Proofs.YtoblgjledefdbaaGreatDoor.St
open Go.RowKit
open Rc
attribute [local go_sem ↓] Go.wp_at_zero Go.wp_at_succ
attribute [local go_sem ↓] exec_appR
theorem one_new (w:World) (a:Value) (T:TypeId) : ∀ j u,[a][j]? = some u→(w.alloc (.cells #[a] T)).cell? ((⟨w.heap.size,0,none⟩:Addr).add j)=some u:=fun j u hu=>by
 rw [Addr.add_mid,World.cell?_alloc_new,Nat.zero_add]
 simpa using hu
def WentE (w w':World) (v v':Value):Prop:=(∃ g n cap,v = .slice (some ⟨g,0,none⟩) n cap∧v' = .slice (some ⟨g,0,none⟩) (n+1) cap∧w.grownBy w' (some g))∨(w.grownBy w' none ∧ ∀ g,v'.ownBlock=some g→w.heap.size≤g)
theorem run_app_E (w:World) (ty B:Nat) (v:Value) (L:List Nat) (hown:OwnE w B v L) (ad:Addr) (mc:Nat) (z:Nat) (hr : ∀ j u,[Value.int .i64 (z:Int)][j]? = some u→w.cell? (ad.add j)=some u)
  (hlen:L.length+1≤1048576) (hB:B≤w.heap.size) :
  ∃ v' w',(Builtin.append_ #[167,167] ty #[v,.slice (some ad) 1 mc]).run Tryz.prog w = .ok v' w'∧OwnE w' B v' (L++[z])∧WentE w w' v v':=by
 obtain ⟨i0,hi,hz0,hz1,hz2⟩:=info_parts Tryz.infoE
 have hap : ∀ {w':World} {v':Value} {n:Nat},n=L.length+1→w'.ownsRow B 3 1 v' n (cE L++[.int .i64 (z:Int)])→OwnE w' B v' (L++[z]):=fun hn h=>by
  rw [OwnE,cE,List.map_append,List.length_append,List.length_cons,List.length_nil,Nat.zero_add,← hn]; exact h
 have h1c : ∀ u∈([.int .i64 (z:Int)]:List Value),u.oneCell'=true:=by intro u hu; simp at hu; subst hu; rfl
 have hown0:=hown
 rcases hown.2 with ⟨rfl,h0⟩ | ⟨g,cp,cur,rfl,hgb,hh,hc⟩
 ·have hL:L=[]:=List.length_eq_zero_iff.1 h0
  subst hL
  obtain ⟨v',w',hrun,r1,r2,_⟩:=run_append_own (P:=Tryz.prog) w w.heap.size 167 ty 3 i0 (.int .i64 0) 1 8 Tryz.underlying167 hi hz0 hz1 hz2 rfl (by decide) _ 0 [] (World.ownsRow_nil _ _ _ _) ad 1 mc [.int .i64 (z:Int)] rfl hr h1c (by decide) (by decide) (Nat.le_refl _)
  exact ⟨v',w',hrun,hap rfl (by simpa [cE] using World.ownsRow.mono r1 hB),.inr ⟨r2,fun k hk=>(World.ownsRow.lt r1 k hk).1⟩⟩
 ·by_cases hfit:L.length+1≤cp
  ·obtain ⟨w',hrun,r1,r2⟩:=run_append_fits (P:=Tryz.prog) w B 167 ty 3 i0 1 Tryz.underlying167 hi hz1 g L.length cp (cE L) hown0 ad 1 mc [.int .i64 (z:Int)] rfl hr h1c hfit
   exact ⟨_,w',hrun,hap rfl r1,.inl ⟨g,L.length,cp,rfl,rfl,r2⟩⟩
  ·obtain ⟨v',w',hrun,r1,r2⟩:=run_append_arg_grows (P:=Tryz.prog) w 167 ty 3 i0 (.int .i64 0) 1 8 Tryz.underlying167 hi hz0 hz1 hz2 rfl (by decide) ⟨g,0,none⟩ L.length cp (cE L) hown0.1 (World.ownsRow.cells hown0 rfl) ad 1 mc [.int .i64 (z:Int)] rfl hr (by omega) (by unfold maxLen; omega) (by omega)
   exact ⟨v',w',hrun,hap rfl (World.ownsRow.mono r1 hB),.inr ⟨r2,fun k hk=>(World.ownsRow.lt r1 k hk).1⟩⟩
section
variable {q p:Nat} {T:Nat→Prop} {D:DV} {S:SV}
set_option maxRecDepth 100000 in
theorem take_any (w:World) (h:Sk w q p T D S) (m:MV) (h1:m.items≤268435456) (h2:S.ends.length<65536) :
  Calls Tryz.prog 179 #[.pointer (some ⟨q,0,none⟩),.agg (mC m)] w fun e w'=>e = .returned (.tuple #[])∧SkM w w' q p T D { S with ends:=S.ends++[m.items],chain:=m.chain } := by
 obtain ⟨S0,v,d1,d2,d3,d4,d5⟩:=h
 obtain ⟨ao,cap,rfl,_⟩:=ownE_form d2.own
 obtain ⟨mk,ma,mb,mc,md⟩:=m
 simp only at h1
 have hw:IntKind.i64.wrap (mb:Int)=(mb:Int):=by rw [IntKind.wrap_i64]; omega
 obtain ⟨w1,hw1⟩ : ∃ W,w.alloc (.cells #[.int .i64 mk,.int .u64 (ma:Int),.int .u64 (mb:Int),.int .u64 (mc:Int),.int .u32 (md.toNat:Int)] 239)=W:=⟨_,rfl⟩
 have u1:Below w.heap.size w w1:=by rw [← hw1]; exact bal (Below.refl _ _) _
 have k1:w1.heap[w.heap.size]? = some (.cells #[.int .i64 mk,.int .u64 (ma:Int),.int .u64 (mb:Int),.int .u64 (mc:Int),.int .u32 (md.toNat:Int)] 239 (0,0)):=by rw [← hw1]; exact new1 _ _
 rw [show mC ⟨mk,ma,mb,mc,md⟩=#[.int .i64 mk,.int .u64 (ma:Int),.int .u64 (mb:Int),.int .u64 (mc:Int),.int .u32 (md.toNat:Int)] from rfl]
 have s1:Sto w1 q p (.slice ao S.ends.length cap) S:=d2.same (u1.block q d2.lt) (fun g hg=>u1.block g (ownE_lt d2.own hg))
 obtain ⟨w2,hw2⟩ : ∃ W,(w1.alloc (.cells #[.int .i64 (mb:Int)] 3)).drew=W:=⟨_,rfl⟩
 have u2:Below w1.heap.size w1 w2:=by rw [← hw2]; exact below_drewN (bal (Below.refl _ _) _) 1
 have s2:Sto w2 q p (.slice ao S.ends.length cap) S:=s1.same (u2.block q s1.lt) (fun g hg=>u2.block g (ownE_lt s1.own hg))
 obtain ⟨v',w3,hap,o3,g3⟩:=run_app_E w2 167 0 _ S.ends s2.own ⟨w1.heap.size,0,none⟩ 1 mb (by rw [← hw2]; exact one_new _ _ _) (by omega) (Nat.zero_le _)
 have t3:Upo (fun x=>(Value.slice ao S.ends.length cap).ownBlock=some x) w2 w3:=by
  rcases g3 with ⟨g,n,c,e1,e2,g3⟩ | ⟨g3,_⟩
  ·rw [e1]; exact Upo.grown g3 (fun b hb=>by cases hb; rfl)
  ·exact Upo.grown g3 (fun b hb=>by cases hb)
 have hv3 : ∀ g,v'.ownBlock=some g→(Value.slice ao S.ends.length cap).ownBlock=some g∨w2.heap.size≤g:=fun g hg=>by
  rcases g3 with ⟨g',n,c,e1,e2,g3⟩ | ⟨_,g3⟩
  ·rw [e1]; rw [e2] at hg; exact .inl hg
  ·exact .inr (g3 g hg)
 obtain ⟨ao3,cap3,rfl,_⟩:=ownE_form o3
 have hq2:q<w2.heap.size:=s2.lt
 have kq:w3.heap[q]? = some (.cells #[.pointer (some ⟨p,0,none⟩),.int .i64 (S.k:Int),.slice ao S.ends.length cap,.int .u32 (S.chain.toNat:Int),.bool S.lame] 169 (0,0)):=(t3.block q hq2 (fun e=>(d4 q e).1 rfl)).trans s2.blk
 have km:w3.heap[w.heap.size]? = some (.cells #[.int .i64 mk,.int .u64 (ma:Int),.int .u64 (mb:Int),.int .u64 (mc:Int),.int .u32 (md.toNat:Int)] 239 (0,0)):=by
  have hz:=(Array.getElem?_eq_some_iff.1 k1).1
  refine (t3.block _ (by have:=u2.size; omega) (fun e => ?_)).trans ((u2.block _ hz).trans k1)
  have:=ownE_lt d2.own e
  omega
 obtain ⟨c0,c1,c2,c3,c4⟩:=five_at s2.blk
 obtain ⟨x0,x1,x2,x3,x4⟩:=five_at ((u2.block _ (Array.getElem?_eq_some_iff.1 k1).1).trans k1)
 obtain ⟨_,_,c2a,_,_⟩:=five_at s1.blk
 obtain ⟨_,_,x2a,_,_⟩:=five_at k1
 have HW1:=hide hw1
 have HW2:=hide hw2
 have ha:=appR_of hap
 have f2:w3.frozen? ⟨q,2,none⟩=false:=frozen_of_row w3 q 2 _ _ kq
 have f3:w3.frozen? ⟨q,3,none⟩=false:=frozen_of_row w3 q 3 _ _ kq
 obtain ⟨y0,y1,y2,y3,y4⟩:=five_at kq
 obtain ⟨z0,z1,z2,z3,z4⟩:=five_at km
 obtain ⟨bm,hbm⟩ : ∃ b,w.heap.size=b:=⟨_,rfl⟩
 have HBm:=hide hbm
 rw [hbm] at x2a x0 x1 x2 x3 x4 z0 z1 z2 z3 z4
 rw [← hw2] at c2 x2 ha
 have hl3:(S.ends++[mb]).length=S.ends.length+1:=by simp
 rw [hl3] at ha o3 hv3
 have hne : ¬ bm=q:=by have:=d2.lt; omega
 have hne2 : ¬ q=bm:=fun e=>hne e.symm
 have HZ:Hid (SkM w ((w3.setCell ⟨q,2,none⟩ (.slice ao3 (S.ends.length+1) cap3)).setCell ⟨q,3,none⟩ (.int .u32 (md.toNat:Int))) q p T D { S with ends:=S.ends++[mb],chain:=md }):=by
  have ub:Below w.heap.size w w2:=bnext u1 u2
  have kq2:((w3.setCell ⟨q,2,none⟩ (.slice ao3 (S.ends.length+1) cap3)).setCell ⟨q,3,none⟩ (.int .u32 (md.toNat:Int))).heap[q]? = some (.cells #[.pointer (some ⟨p,0,none⟩),.int .i64 (S.k:Int),.slice ao3 (S.ends.length+1) cap3,.int .u32 (md.toNat:Int),.bool S.lame] 169 (0,0)) :=
   heap_setCell_same _ q 3 _ _ _ (heap_setCell_same w3 q 2 _ _ _ kq)
  have up:Upo (fun x=>x=q∨(Value.slice ao S.ends.length cap).ownBlock=some x) w ((w3.setCell ⟨q,2,none⟩ (.slice ao3 (S.ends.length+1) cap3)).setCell ⟨q,3,none⟩ (.int .u32 (md.toNat:Int))) :=
   (((Upo.of ub).trans t3 (fun x _ e => .inr e)).set q 2 _ (.inl (.inl rfl))).set q 3 _ (.inl (.inl rfl))
  have oth : ∀ x,x≠q→((w3.setCell ⟨q,2,none⟩ (.slice ao3 (S.ends.length+1) cap3)).setCell ⟨q,3,none⟩ (.int .u32 (md.toNat:Int))).heap[x]? = w3.heap[x]? := fun x hx=>(Below.heap_setCell _ _ _ _ hx).trans (Below.heap_setCell _ _ _ _ hx)
  have hvq : ∀ g,(Value.slice ao3 (S.ends.length+1) cap3).ownBlock=some g→g≠q ∧ ¬ S0 g:=fun g hg=>by
   rcases hv3 g hg with e | e
   ·exact d4 g e
   ·exact ⟨by omega,fun hs=>by have:=d1.lt hs; have:=ub.size; omega⟩
  refine ⟨fun x=>S0 x∨x=q∨(Value.slice ao3 (S.ends.length+1) cap3).ownBlock=some x,⟨S0,.slice ao3 (S.ends.length+1) cap3,?_,⟨kq2,row_keep (v := .slice ao3 (S.ends.length+1) cap3) o3 (fun g hg=>oth g (hvq g hg).1),d2.k1,d2.k2,by simp; omega,fun e he => ?_⟩,d3,hvq,fun _=>Iff.rfl⟩,fun x hx => ?_,up.mono (fun x _ e=>(d5 x).2 (.inr e))⟩
  ·exact d1.keep up (fun x hx e=>by
    rcases e with rfl | e
    ·exact d3 hx
    ·exact (d4 x e).2 hx)
  ·rcases List.mem_append.1 he with e1 | e1
   ·exact d2.low e e1
   ·rw [List.mem_singleton.1 e1]; exact h1
  ·rcases hx with e | e | e
   ·exact .inl ((d5 x).2 (.inl e))
   ·exact .inl ((d5 x).2 (.inr (.inl e)))
   ·rcases hv3 x e with e | e
    ·exact .inl ((d5 x).2 (.inr (.inr e)))
    ·exact .inr (by have:=ub.size; omega)
 clear hw1 hw2 hbm u1 u2 s1 s2 hap o3 g3 t3 hv3 kq km k1 d1 d2 d3 d4 d5 h1 h2 hq2
 go_enter Tryz.func179,Tryz.ntmps179
 go_upto_region 1 with (fail)
 rw [HW1.out,HBm.out]
 go_region
 all_goals
  go_wp2
  exact bodyPost_end (results_none rfl _ Tryz.prog _) rfl ⟨rfl,HZ.out⟩
end
end Go.Proofs.YtoblgjledefdbaaGreatDoor.St
namespace Go.Proofs.YtoblgjledefdbaaGreatDoor.St
structure Rm (n:Nat) (D:DV):Prop where
 acts:D.acts+n≤4611686018427387904
 cnt:D.L.length+n≤1099511627776
 free:D.free+268435456 * n≤4611686018427387904
theorem Rm.rmy {n:Nat} {D:DV} (h:Rm (n+1) D):Rmy D:=⟨by have:=h.acts; omega,by have:=h.cnt; omega,by have:=h.free; omega⟩
theorem Rm.mono {n m:Nat} {D:DV} (h:Rm n D) (hm:m≤n):Rm m D:=⟨by have:=h.acts; omega,by have:=h.cnt; omega,by have:=h.free; omega⟩
theorem rm_put {n:Nat} {D:DV} (s:List UInt8) (f:FV) (hz:(fget D.L s).now.length≤268435456) (ha:D.acts+n≤4611686018427387904) (hc:D.L.length+(n+1)≤1099511627776) (hf:D.free+268435456 * (n+1)≤4611686018427387904):Rm n (dput D s f):=by
 refine ⟨ha,?_,?_⟩
 ·have:=len_put (L:=D.L) s f
  show (fput D.L s f).length+n≤_
  omega
 ·show D.free+(fget D.L s).now.length - f.now.length+268435456 * n≤_
  omega
theorem rm_down {n:Nat} {D:DV} (ks:List Bool) (h:Rm n D):Rm n (downD D ks):=by
 refine ⟨h.acts,?_,h.free⟩
 have h1:=layL_len (aft ks D.L 0)
 have h2:=aft_len ks D.L 0
 have:=h.cnt
 show (layL (aft ks D.L 0)).length+n≤_
 omega
theorem rm_act {n:Nat} {D:DV} (s:List UInt8) (f:FV) (hz:(fget D.L s).now.length≤268435456) (h:Rm (n+1) D):Rm n (actD D s f).1:=by
 obtain ⟨e1,e2,e3,e4,_⟩:=metD_L { D with acts:=D.acts+1 }
 have ha:=h.acts
 have hc:=h.cnt
 have hf:=h.free
 have q1:Rm n (metD { D with acts:=D.acts+1 }).1:=⟨by rw [e4]; show D.acts+1+n≤_; omega,by rw [e1]; show D.L.length+n≤_; omega,by rw [e2]; show D.free+_≤_; omega⟩
 have q2:Rm n (dput (metD { D with acts:=D.acts+1 }).1 s f):=rm_put s f (by rw [e1]; exact hz) (by rw [e4]; show D.acts+1+n≤_; omega) (by rw [e1]; exact hc) (by rw [e2]; exact hf)
 unfold actD
 simp only
 split
 ·exact q1
 ·split
  ·exact q1
  ·split
   ·exact rm_down _ q1
   ·split
    ·exact q2
    ·split
     ·exact rm_down _ q2
     ·exact q2
theorem rm_wr {n:Nat} {D:DV} (s:List UInt8) (off:Int) (t:List UInt8) (hz:(fget D.L s).now.length≤268435456) (h:Rm (n+1) D):Rm n (wrD D s off t).1:=by
 unfold wrD
 split
 ·exact h.mono (by omega)
 ·split
  ·exact h.mono (by omega)
  ·split
   ·exact h.mono (by omega)
   ·exact rm_act s _ hz h
theorem rm_cut {n:Nat} {D:DV} (s:List UInt8) (off:Int) (hz:(fget D.L s).now.length≤268435456) (h:Rm (n+1) D):Rm n (cutD D s off).1:=by
 unfold cutD
 split
 ·exact h.mono (by omega)
 ·split
  ·exact h.mono (by omega)
  ·exact rm_act s _ hz h
theorem rm_syn {n:Nat} {D:DV} (s:List UInt8) (hz:(fget D.L s).now.length≤268435456) (h:Rm (n+1) D):Rm n (synD D s).1:=by
 unfold synD
 split
 ·exact h.mono (by omega)
 ·exact rm_act s _ hz h
end Go.Proofs.YtoblgjledefdbaaGreatDoor.St
