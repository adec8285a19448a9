/- Own work. -/
import Derived.Defers
import Derived.Recover
import Derived.Shelf.Strings.OnBuilder
import Derived.Deep.AppendSrc
import Derived.Lib.AppendStr
import Derived.Deep.Upon
import Derived.Test.YtipcenbndhnnhaaGreatDoorQc14
namespace Go.Proofs.YtipcenbndhnnhaaGreatDoor
open Go.RowKit
attribute [local go_sem ↓] Go.wp_at_zero Go.wp_at_succ
def Er (w:World) (b:Nat) (e:Int):Prop:=w.heap[b]? = some (.cells #[.int .i64 e] 33 (0,0))
theorem Er.cell {w:World} {b:Nat} {e:Int} (h:Er w b e):w.cell? ⟨b,0,none⟩=some (.int .i64 e):=by rw [cell_of_row w b 0 _ _ (0,0) h]; rfl
theorem Er.fz {w:World} {b:Nat} {e:Int} (h:Er w b e):w.frozen? ⟨b,0,none⟩=false:=frozen_of_row w b 0 _ _ h
theorem Er.same {w W:World} {b:Nat} {e:Int} (h:Er w b e) (hb:W.heap[b]? = w.heap[b]?):Er W b e:=hb.trans h
theorem Er.set {w:World} {b:Nat} {e:Int} (h:Er w b e) (e':Int):Er (w.setCell ⟨b,0,none⟩ (.int .i64 e')) b e':=heap_setCell_same w b 0 _ _ (.int .i64 e') h
set_option maxRecDepth 100000 in
theorem catch_panicking (a b:Nat) (u:TypeId) (pv:Value) (older:List PanicEntry) (w:World) {x0 x1 x2 x3 x4 x5:Value} {e:Int} (h6:Six w a x0 x1 x2 x3 x4 x5) (he:Er w b e) (hne:a≠b) :
  CallsD Tryz.prog 112 #[.pointer (some ⟨a,0,none⟩),.pointer (some ⟨b,0,none⟩)] (.panicking ({ v := .iface u pv,recovered:=false } :: older)) w fun e u' w' =>
   e = .returned (.tuple #[])∧u' = .panicking ({ v := .iface u pv,recovered:=true } :: older)∧w'=(put6 w a (.int .i64 0) (.int .i64 0) (.int .u64 0) (.int .u64 0) (.slice none 0 0) (.slice none 0 0)).setCell ⟨b,0,none⟩ (.int .i64 140):=by
 obtain ⟨c0,c1,c2,c3,c4,c5⟩:=h6.cells
 have f0:=h6.fz
 have g0:=he.cell
 have g1:=he.fz
 have hne' : ¬ b=a:=fun h=>hne h.symm
 refine callsD_of_wpS Tryz.func112 rfl fun c₀ cs hu => ?_
 apply wpS_seq
 apply wpS_region
 simp [wpOpsS,go_sem,recoverD,hu,Tryz.ntmps112,Exit.thenS]
 refine wpS_cond (t:=true) (by simp [Act.eval,Array.replicate]) ?_
 simp only [if_true]
 refine wpS_of_wp ?_
 have ht:(#[Value.pointer (some ⟨a,0,none⟩),Value.pointer (some ⟨b,0,none⟩)]++((Array.replicate 3 undef).setIfInBounds 0 (Value.iface u pv)).setIfInBounds 1 (Value.bool true):Array Value)=#[Value.pointer (some ⟨a,0,none⟩),Value.pointer (some ⟨b,0,none⟩),Value.iface u pv,Value.bool true,undef]:=rfl
 rw [ht]
 have k6:=h6.put (.int .i64 0) (.int .i64 0) (.int .u64 0) (.int .u64 0) (.slice none 0 0) (.slice none 0 0)
 have kc:=put6_ch w a (.int .i64 0) (.int .i64 0) (.int .u64 0) (.int .u64 0) (.slice none 0 0) (.slice none 0 0)
 have ke:=he.same (kc.block b (by show ¬ _=_; exact hne'))
 have k0:=ke.cell
 have k1:=ke.fz
 unfold put6 at k0 k1 ⊢
 clear k6 kc ke h6 he
 go_wp2
 simp [bodyPostS,results,Tryz.results112]
theorem catch_idle (a b:Nat) (w:World) :
  CallsD Tryz.prog 112 #[.pointer (some ⟨a,0,none⟩),.pointer (some ⟨b,0,none⟩)] .returning w fun e u' w'=>e = .returned (.tuple #[])∧u' = .returning∧w'=w:=by
 refine callsD_of_wpS Tryz.func112 rfl fun c₀ cs hu => ?_
 apply wpS_seq
 apply wpS_region
 simp [wpOpsS,go_sem,recoverD,hu,Tryz.ntmps112,Exit.thenS]
 refine wpS_cond (t:=false) (by simp [Act.eval,Array.replicate]) ?_
 simp only [Bool.false_eq_true,if_false]
 refine wpS_of_wp (wp_skip ?_)
 cases c₀
 simp_all [bodyPostS,results,Tryz.results112]
def DecQ (w:World) (s:ByteArray) (e:Ending) (w':World):Prop :=
 (∃ P sv dv,dec s.data.toList=some P∧e = .returned (.tuple #[pv6 P.kd P.k P.old P.size sv dv,.int .i64 0])∧Cv.Own w' w.heap.size sv P.S∧OwnS w' w.heap.size dv P.D∧Below w.heap.size w w') ∨
  (dec s.data.toList=none∧e = .returned (.tuple #[noP,.int .i64 140])∧Below w.heap.size w w')
structure D2 (w W:World):Prop where
 six:Six W w.heap.size (.int .i64 0) (.int .i64 0) (.int .u64 0) (.int .u64 0) (.slice none 0 0) (.slice none 0 0)
 er:Er W (w.heap.size+1) 0
 below:Below w.heap.size w W
theorem D2.next {w W W':World} (h:D2 w W) (hb : ∀ b,b<w.heap.size+2→W'.heap[b]? = W.heap[b]?) (hw:Below w.heap.size w W'):D2 w W' :=
 ⟨h.six.same (hb _ (by omega)),h.er.same (hb _ (by omega)),hw⟩
theorem d2_new (w:World) (o1 o2:Obj) (h1:o1 = .cells #[.int .i64 0,.int .i64 0,.int .u64 0,.int .u64 0,.slice none 0 0,.slice none 0 0] 38) (h2:o2 = .cells #[.int .i64 0] 33):D2 w ((w.alloc o1).alloc o2):=by
 subst h1 h2
 refine ⟨(six_new w _ _ _ _ _ _).next (bal (Below.refl _ _) _),?_,bal (bal (Below.refl _ _) _) _⟩
 have:=heap_alloc_new (w.alloc (.cells #[.int .i64 0,.int .i64 0,.int .u64 0,.int .u64 0,.slice none 0 0,.slice none 0 0] 38)) (.cells #[.int .i64 0] 33)
 rw [World.size_alloc] at this
 exact this
set_option maxRecDepth 100000 in
set_option maxHeartbeats 1000000 in
theorem decode_any (w:World) (s:ByteArray) (hs:s.size≤281474976710656) :
  Calls Tryz.prog 70 #[.string s] w (DecQ w s):=by
 have hmf : ∀ (fn:Fn) (first cap:Array Value) (w:World),(Instr.makeFunc fn first cap).run Tryz.prog w = .ok (.func fn first cap) w:=fun _ _ _ _=>rfl
 have K0:=d2_new w _ _ rfl rfl
 obtain ⟨W0,hW0⟩ : ∃ W0,(w.alloc (.cells #[.int .i64 0,.int .i64 0,.int .u64 0,.int .u64 0,.slice none 0 0,.slice none 0 0] 38)).alloc (.cells #[.int .i64 0] 33)=W0:=⟨_,rfl⟩
 have hz0:W0.heap.size=w.heap.size+2:=by rw [← hW0]; simp
 rw [hW0] at K0
 have HW:=new_anyC W0 s
 have HP:=proof_any (W0.alloc (.cells #[.string s,.int .i64 0] 190)) W0.heap.size s (rdr_new W0 s _) hs
 have hsz1:(W0.alloc (.cells #[.string s,.int .i64 0] 190)).heap.size=W0.heap.size+1:=World.size_alloc _ _
 have hbr:=bal (Below.refl W0.heap.size W0) (.cells #[.string s,.int .i64 0] 190)
 have HK:Hid (∀ w2,Ch W0.heap.size (W0.alloc (.cells #[.string s,.int .i64 0] 190)) w2→D2 w w2):=fun w2 hc=>K0.next (fun b hb=>(hc.block b (by omega) (by omega)).trans (hbr.block b (by omega))) ((K0.below.trans (hbr.mono (by omega))).trans (hc.below.mono (by omega)))
 have HZ:Hid (w.heap.size≤(W0.alloc (.cells #[.string s,.int .i64 0] 190)).heap.size):=(by rw [hsz1]; omega:w.heap.size≤(W0.alloc (.cells #[.string s,.int .i64 0] 190)).heap.size)
 clear K0 hz0 hs hbr hsz1
 obtain ⟨W1,hW1⟩ : ∃ W1,W0.alloc (.cells #[.string s,.int .i64 0] 190)=W1:=⟨_,rfl⟩
 rw [hW1] at HW HP HK HZ
 clear hW1
 obtain ⟨q,hq⟩ : ∃ q,W0.heap.size=q:=⟨_,rfl⟩
 rw [hq] at HW HP HK
 clear hq
 cases hd:dec s.data.toList with
 | none =>
  have HP':Calls Tryz.prog 113 #[.pointer (some ⟨q,0,none⟩)] W1 fun e w'=>(∃ u v,e = .panicked [{ v := .iface u v,recovered:=false }])∧Ch q W1 w':=HP.mono fun e w' h=>by
   rcases h with ⟨P,_,_,h,_⟩ | ⟨_,h1,h2⟩
   ·rw [hd] at h; cases h
   ·exact ⟨h1,h2⟩
  clear HP
  go_enter_defers Tryz.func70,Tryz.ntmps70
  go_upto_region 2 with (fail)
  try rw [hW0]
  clear hW0
  go_wp2_with (first
   | (go_at_call 114; with_reducible refine HW.mono ?_; rintro x w1 ⟨rfl,rfl⟩)
   | (go_at_call 113; with_reducible refine HP'.mono ?_; rintro x w2 ⟨⟨u,v,rfl⟩,hc⟩))
  refine leaves_cons (f:=112) (args:=#[.pointer (some ⟨w.heap.size,0,none⟩),.pointer (some ⟨w.heap.size+1,0,none⟩)]) (by simp) (by simp [go_sem]) ?_
  have K:=HK.out _ hc
  refine (catch_panicking _ _ u v [] _ K.six K.er (by omega)).mono ?_
  rintro e u' w'' ⟨rfl,rfl,rfl⟩
  have h6:=K.six.put (.int .i64 0) (.int .i64 0) (.int .u64 0) (.int .u64 0) (.slice none 0 0) (.slice none 0 0)
  have kc:=put6_ch w2 w.heap.size (.int .i64 0) (.int .i64 0) (.int .u64 0) (.int .u64 0) (.slice none 0 0) (.slice none 0 0)
  have ke:=(K.er.same (kc.block _ (by show ¬ _=_; omega))).set 140
  have hb1:Below w.heap.size w (put6 w2 w.heap.size (.int .i64 0) (.int .i64 0) (.int .u64 0) (.int .u64 0) (.slice none 0 0) (.slice none 0 0)):=K.below.trans (kc.below (by rintro b rfl; exact Nat.le_refl _))
  have hb2:=hb1.setCell (p:=⟨w.heap.size+1,0,none⟩) (by show w.heap.size≤w.heap.size+1; omega) (.int .i64 140)
  have h6':=h6.same (W:=(put6 w2 w.heap.size (.int .i64 0) (.int .i64 0) (.int .u64 0) (.int .u64 0) (.slice none 0 0) (.slice none 0 0)).setCell ⟨w.heap.size+1,0,none⟩ (.int .i64 140)) (Below.heap_setCell _ _ _ _ (by show w.heap.size≠w.heap.size+1; omega))
  obtain ⟨s0,s1,s2,s3,s4,s5⟩:=h6'.cells
  have t0:=ke.cell
  have HF:Hid (DecQ w s (.returned (.tuple #[noP,.int .i64 140])) ((put6 w2 w.heap.size (.int .i64 0) (.int .i64 0) (.int .u64 0) (.int .u64 0) (.slice none 0 0) (.slice none 0 0)).setCell ⟨w.heap.size+1,0,none⟩ (.int .i64 140))) := .inr ⟨hd,rfl,hb2⟩
  generalize (put6 w2 w.heap.size (.int .i64 0) (.int .i64 0) (.int .u64 0) (.int .u64 0) (.slice none 0 0) (.slice none 0 0)).setCell ⟨w.heap.size+1,0,none⟩ (.int .i64 140)=F at *
  simp [Leaves,settle,results,Tryz.results70,go_sem,s0,s1,s2,s3,s4,s5,t0]
  exact HF.out
 | some P =>
  have HP':Calls Tryz.prog 113 #[.pointer (some ⟨q,0,none⟩)] W1 fun e w' => ∃ sv dv,e = .returned (pv6 P.kd P.k P.old P.size sv dv)∧Cv.Own w' W1.heap.size sv P.S∧OwnS w' W1.heap.size dv P.D∧Ch q W1 w':=HP.mono fun e w' h=>by
   rcases h with ⟨P',sv,dv,h,h2⟩ | ⟨h,_⟩
   ·rw [hd] at h; cases h; exact ⟨sv,dv,h2⟩
   ·rw [hd] at h; cases h
  clear HP
  obtain ⟨kd,k,old,size,S,D⟩:=P
  simp only at HP'
  have HD:=hideC hd
  clear hd
  go_enter_defers Tryz.func70,Tryz.ntmps70
  go_upto_region 2 with (fail)
  try rw [hW0]
  clear hW0
  go_wp2_with (first
   | (go_at_call 114; with_reducible refine HW.mono ?_; rintro x w1 ⟨rfl,rfl⟩)
   | (go_at_call 113; (with_reducible refine HP'.mono ?_); rintro x w2 ⟨sv,dv,rfl,o1,o2,hc⟩; (obtain ⟨ao,m,c,rfl⟩:=Cv.own_slice o1); (obtain ⟨ao2,m2,c2,rfl⟩:=Cv.own_slice o2); (have K:=HK.out _ hc); (obtain ⟨e0,e1,e2,e3,e4,e5⟩:=K.six.cells); (have f0:=K.six.fz); (have kc:=put6_ch w2 w.heap.size (.int .i64 kd) (.int .i64 k) (.int .u64 (old:Int)) (.int .u64 (size:Int)) (.slice ao m c) (.slice ao2 m2 c2)); (have ke:=K.er.same (kc.block _ (by show ¬ _=_; omega))); (have k0:=ke.cell); (have k1:=ke.fz); (unfold put6 at k0 k1); (have HH:Hid (Cv.Own w2 w1.heap.size (.slice ao m c) S∧OwnS w2 w1.heap.size (.slice ao2 m2 c2) D∧D2 w w2):=⟨o1,o2,K⟩); clear o1 o2 hc K kc ke))
  refine leaves_cons (f:=112) (args:=#[.pointer (some ⟨w.heap.size,0,none⟩),.pointer (some ⟨w.heap.size+1,0,none⟩)]) (by simp) (by simp [go_sem]) ?_
  refine (catch_idle _ _ _).mono ?_
  rintro e u' w'' ⟨rfl,rfl,rfl⟩
  obtain ⟨o1,o2,K⟩:=HH.out
  have h6:=K.six.put (.int .i64 kd) (.int .i64 k) (.int .u64 (old:Int)) (.int .u64 (size:Int)) (.slice ao m c) (.slice ao2 m2 c2)
  have kc:=put6_ch w2 w.heap.size (.int .i64 kd) (.int .i64 k) (.int .u64 (old:Int)) (.int .u64 (size:Int)) (.slice ao m c) (.slice ao2 m2 c2)
  have ke':=K.er.same (kc.block _ (by show ¬ _=_; omega))
  have ke:=ke'.set 0
  have hb1:Below w.heap.size w (put6 w2 w.heap.size (.int .i64 kd) (.int .i64 k) (.int .u64 (old:Int)) (.int .u64 (size:Int)) (.slice ao m c) (.slice ao2 m2 c2)):=K.below.trans (kc.below (by rintro b rfl; exact Nat.le_refl _))
  have hb2:=hb1.setCell (p:=⟨w.heap.size+1,0,none⟩) (by show w.heap.size≤w.heap.size+1; omega) (.int .i64 0)
  have h6':=h6.same (W:=(put6 w2 w.heap.size (.int .i64 kd) (.int .i64 k) (.int .u64 (old:Int)) (.int .u64 (size:Int)) (.slice ao m c) (.slice ao2 m2 c2)).setCell ⟨w.heap.size+1,0,none⟩ (.int .i64 0)) (Below.heap_setCell _ _ _ _ (by show w.heap.size≠w.heap.size+1; omega))
  have hne : ∀ {e n:Nat} {v:Value} {xs:List Value},w2.ownsRow w1.heap.size e 1 v n xs→e≠38→e≠33→((put6 w2 w.heap.size (.int .i64 kd) (.int .i64 k) (.int .u64 (old:Int)) (.int .u64 (size:Int)) (.slice ao m c) (.slice ao2 m2 c2)).setCell ⟨w.heap.size+1,0,none⟩ (.int .i64 0)).ownsRow w.heap.size e 1 v n xs:=fun {e n v xs} ho h1 h2=>by
   refine keep_row (ho.mono HZ.out) fun g hg _ => ?_
   have n1:=own_ne6 ho K.six h1 g hg
   have n2:g≠w.heap.size+1:=by
    rintro rfl
    rcases ho.2 with ⟨rfl,_⟩ | ⟨g',cap,cur,rfl,_,hh,_⟩
    ·cases hg
    ·cases hg
     have:=K.er
     rw [Er,hh] at this
     injection this with this
     injection this with _ e2 _
     exact h2 e2
   rw [Below.heap_setCell _ _ _ _ (by show g≠w.heap.size+1; exact n2)]
   exact kc.block g n1
  obtain ⟨s0,s1,s2,s3,s4,s5⟩:=h6'.cells
  have t0:=ke.cell
  have HF:Hid (DecQ w s (.returned (.tuple #[pv6 kd k old size (.slice ao m c) (.slice ao2 m2 c2),.int .i64 0])) ((put6 w2 w.heap.size (.int .i64 kd) (.int .i64 k) (.int .u64 (old:Int)) (.int .u64 (size:Int)) (.slice ao m c) (.slice ao2 m2 c2)).setCell ⟨w.heap.size+1,0,none⟩ (.int .i64 0))) := .inl ⟨_,_,_,HD.out,rfl,hne o1 (by decide) (by decide),hne o2 (by decide) (by decide),hb2⟩
  unfold put6 at HF s0 s1 s2 s3 s4 s5 t0
  simp [Leaves,settle,results,Tryz.results70,go_sem,s0,s1,s2,s3,s4,s5,t0]
  exact HF.out
end Go.Proofs.YtipcenbndhnnhaaGreatDoor
namespace Go.Proofs.YtipcenbndhnnhaaGreatDoor
open Go.Shelf
open Go.RowKit
def Tryz.lays156_ren:Go.Shelf.Ren:=⟨fun | 156=>34 | 165=>67 | 166=>68 | 169=>69 | 240=>110 | 241=>111 | 276=>152 | 277=>153 | n=>n,fun | 31=>22 | 9=>9 | 3=>3 | 4=>4 | 0=>0 | 20=>20 | 72=>120 | 76=>124 | 70=>118 | 37=>115 | 75=>123 | 127=>149 | 164=>181 | 5=>5 | 80=>126 | n=>n,fun | n=>n⟩
theorem Tryz.lays156:Go.Proofs.Lays.n156 Tryz.prog Tryz.lays156_ren := {
 mixed:=by kernel_rfl
 f156:=Tryz.func34.trans (congrArg some (by kernel_rfl))
 f165:=Tryz.func67.trans (congrArg some (by kernel_rfl))
 f166:=Tryz.func68.trans (congrArg some (by kernel_rfl))
 f169:=Tryz.func69.trans (congrArg some (by kernel_rfl))
 f240:=Tryz.func110.trans (congrArg some (by kernel_rfl))
 f241:=Tryz.func111.trans (congrArg some (by kernel_rfl))
 f276:=Tryz.func152.trans (congrArg some (by kernel_rfl))
 f277:=Tryz.func153.trans (congrArg some (by kernel_rfl))
 t0:=Tryz.underlying0
 a0:=Tryz.isAgg0
 z0:=Tryz.sizeOf0
 v0:=Tryz.zeroValue0
 t3:=Tryz.underlying3
 a3:=Tryz.isAgg3
 z3:=Tryz.sizeOf3
 v3:=Tryz.zeroValue3
 t4:=Tryz.underlying4
 a4:=Tryz.isAgg4
 z4:=Tryz.sizeOf4
 v4:=Tryz.zeroValue4
 t9:=Tryz.underlying9
 a9:=Tryz.isAgg9
 z9:=Tryz.sizeOf9
 v9:=Tryz.zeroValue9
 t20:=Tryz.underlying20
 a20:=Tryz.isAgg20
 z20:=Tryz.sizeOf20
 v20:=Tryz.zeroValue20
 t31:=Tryz.underlying22
 a31:=Tryz.isAgg22
 z31:=Tryz.sizeOf22
 v31:=Tryz.zeroValue22
 t37:=Tryz.underlying115
 a37:=Tryz.isAgg115
 z37:=Tryz.sizeOf115
 v37:=Tryz.zeroValue115
 t70:=Tryz.underlying118
 a70:=Tryz.isAgg118
 z70:=Tryz.sizeOf118
 v70:=Tryz.zeroValue118
 t72:=Tryz.underlying120
 a72:=Tryz.isAgg120
 z72:=Tryz.sizeOf120
 v72:=Tryz.zeroValue120
 t75:=Tryz.underlying123
 a75:=Tryz.isAgg123
 z75:=Tryz.sizeOf123
 v75:=Tryz.zeroValue123
 t76:=Tryz.underlying124
 a76:=Tryz.isAgg124
 z76:=Tryz.sizeOf124
 v76:=Tryz.zeroValue124
 t127:=Tryz.underlying149
 a127:=Tryz.isAgg149
 z127:=Tryz.sizeOf149
 v127:=Tryz.zeroValue149
 t164:=Tryz.underlying181
 a164:=Tryz.isAgg181
 z164:=Tryz.sizeOf181
 v164:=Tryz.zeroValue181 }
theorem Tryz.Builder_Extra_156:Builder.Extra Tryz.prog Tryz.lays156_ren := {
 sizeBuilder:=by kernel_rfl
 liesBuilder:=by kernel_rfl
 t5:=Tryz.underlying5
 a5:=Tryz.isAgg5
 z5:=Tryz.sizeOf5
 v5:=Tryz.zeroValue5
 infoByte:=by kernel_rfl
 cellsByte:=by kernel_rfl
 sizeByte:=by kernel_rfl
 neB5:=by decide }
theorem Tryz.strings_Join_none (a:Option Addr) (c:Nat) (sep:ByteArray) (w:World) :
  Calls Tryz.prog 34 #[.slice a 0 c,.string sep] w fun e w'=>e = .returned (.string ⟨#[]⟩)∧w'=w:=Any.strings_Join_none Tryz.lays156 Tryz.Builder_Extra_156 a c sep w
theorem Tryz.strings_Join (bk o c:Nat) (xs:List ByteArray) (sep:ByteArray) (w:World) (hcells : ∀ (j:Nat) x,xs[j]? = some x→w.cell? ⟨bk,o+j,none⟩=some (.string x)) (hbk:bk<w.heap.size) (hN:xs.length≤140737488355328) (hcap:xs.length≤c) (hlen:(Lib.join (xs.map (·.data.toList)) sep.data.toList).length≤140737488355328) :
  Calls Tryz.prog 34 #[.slice (some ⟨bk,o,none⟩) xs.length c,.string sep] w fun e w'=>e = .returned (.string ⟨(Lib.join (xs.map (·.data.toList)) sep.data.toList).toArray⟩)∧Below w.heap.size w w':=Any.strings_Join Tryz.lays156 Tryz.Builder_Extra_156 bk o c xs sep w hcells hbk hN hcap hlen
theorem join_flat (D:List ByteArray):Lib.join (D.map (·.data.toList)) []=flatC D:=by
 cases D with
 | nil=>rfl
 | cons d D=>rw [List.map_cons,Lib.join_cons,flat_cons]; simp [Lib.joinTail,flatC]; rfl
theorem join_anyC (w:World) (da:Option Addr) (db dO dc:Nat) (D:List ByteArray) (rd:RdS w da db dO D.length D) (hc:D.length≤dc) (hD:D.length≤140737488355328) (hl:(flatC D).length≤140737488355328) :
  Calls Tryz.prog 34 #[.slice da D.length dc,.string ByteArray.empty] w fun e w'=>e = .returned (.string ⟨(flatC D).toArray⟩)∧Below w.heap.size w w':=by
 have he:ByteArray.empty.data.toList=[]:=rfl
 by_cases h0:D.length=0
 ·have:D=[]:=List.length_eq_zero_iff.1 h0
  subst this
  exact (Tryz.strings_Join_none da dc ByteArray.empty w).mono fun e w' h=>⟨h.1,by rw [h.2]; exact Below.refl _ _⟩
 ·obtain rfl:=rd.ptr (by omega)
  have h:=Tryz.strings_Join db dO dc D ByteArray.empty w (fun j x hx=>rd.rng j _ (by rw [List.getElem?_map,hx]; rfl)) (rd.lt (by omega)) hD hc (by rw [he,join_flat]; exact hl)
  rw [he,join_flat] at h
  exact h
end Go.Proofs.YtipcenbndhnnhaaGreatDoor
namespace Go.Proofs.YtipcenbndhnnhaaGreatDoor
open Go.RowKit
open Cv (Chain)
attribute [local go_sem ↓] Go.wp_at_zero Go.wp_at_succ
def Row8 (w:World) (B:Nat) (v:Value) (l:List UInt8):Prop :=
 ∃ g cap,v = .slice (some ⟨g,0,none⟩) l.length cap∧B≤g∧g<w.heap.size∧w.rangeAt g 0 (cY l)∧w.there g 0 cap∧l.length≤cap
theorem cells8 (t:ByteArray):byteCells t=cY t.data.toList:=rfl
theorem cells9 (t:ByteArray):Lib.strCells t=cY t.data.toList:=rfl
theorem cY_app (l m:List UInt8):cY (l++m)=cY l++cY m:=by simp [cY]
theorem row8_new (w:World) (s:ByteArray) (cap:Nat) (hc:s.size≤cap):Row8 (w.alloc (.cells (bytesRow s cap) 5 ((bytesRow s cap).size,(bytesRow s cap).size+1))) w.heap.size (.slice (some ⟨w.heap.size,0,none⟩) s.size cap) s.data.toList:=by
 have hd:s.data.size=s.size:=rfl
 have hsz:(bytesRow s cap).size=cap:=by simp only [bytesRow,Array.size_append,Array.size_map,Array.size_replicate,hd]; omega
 refine ⟨w.heap.size,cap,by rw [size_list],Nat.le_refl _,by simp,fun j v hv => ?_,fun j hj=>⟨?_,?_⟩,by rw [size_list]; exact hc⟩
 ·have hj:j<s.data.size:=by have:=(List.getElem?_eq_some_iff.1 hv).1; rw [cY_len,Array.length_toList] at this; exact this
  rw [Nat.zero_add,World.cell?_alloc_mark,bytesRow_at s cap j hj,← hv]
  simp [cY,Array.getElem?_eq_getElem hj]
 ·rw [Nat.zero_add,World.cell?_alloc_mark,Array.getElem?_eq_getElem (by omega)]; rfl
 ·rw [Nat.zero_add,World.frozen?_alloc_mark,hsz]
  simp
  omega
theorem Row8.next {w w':World} {B:Nat} {v:Value} {l:List UInt8} (h:Row8 w B v l) (hb:Below w.heap.size w w'):Row8 w' B v l:=by
 obtain ⟨g,cap,rfl,h1,h2,h3,h4,h5⟩:=h
 refine ⟨g,cap,rfl,h1,Nat.lt_of_lt_of_le h2 hb.size,range_belowC hb h2 h3,fun j hj => ?_,h5⟩
 rw [hb.cell (p:=⟨g,0+j,none⟩) h2,hb.frozen (p:=⟨g,0+j,none⟩) h2]; exact h4 j hj
theorem Row8.conv {w:World} {B:Nat} {v:Value} {l:List UInt8} (h:Row8 w B v l):(convert 115 9 v).run Tryz.prog w = .ok (.string ⟨l.toArray⟩) w:=by
 obtain ⟨g,cap,rfl,h1,h2,h3,h4,h5⟩:=h
 refine run_convert_bytes_back _ 115 9 5 ⟨g,0,none⟩ cap l Tryz.underlying115 Tryz.underlying5 Tryz.underlying9 fun j hj => ?_
 rw [Addr.add_mid]
 exact h3 j _ (by simp [cY,List.getElem?_eq_getElem hj])
theorem below_set8 {B g:Nat} (hg:B≤g) : ∀ (vs:List Value) (o:Nat) (w:World),Below B w (w.setCells g o vs)
 | [],_,_=>Below.refl _ _
 | v::r,o,w=>((Below.refl B w).setCell (p:=⟨g,o,none⟩) hg v).trans (below_set8 hg r (o+1) _)
theorem wpList_append_8 (w:World) {ops:Array Oper} {rest:List Oper} {o:Oper} {a:Act} {Q:Exit→Act→World→Prop}
  (hg:o.guard=none) (s x:Operand) (hop:o.op=Op.call { callee:=Callee.builtin Builtin.append,args:=#[s,x],argTypes:=#[115,9] })
  (B:Nat) (v:Value) (l:List UInt8) (hs:a.eval s=v) (h:Row8 w B v l) (t:ByteArray) (hx:a.eval x = .string t) (hlen:l.length+t.size≤140737488355328) (hB:B≤w.heap.size)
  (hK : ∀ v' w',Row8 w' B v' (l++t.data.toList)→Below B w w'→wpList Tryz.prog ops Q rest (a.put o.dst v') w'):wpList Tryz.prog ops Q (o::rest) a w:=by
 obtain ⟨i0,hi,hz0,hz1,hz2⟩:=info_parts Tryz.infoY
 obtain ⟨g,cap,rfl,h1,h2,h3,h4,h5⟩:=h
 refine wpList_plain hg fun K hK' => ?_
 have ht:(byteCells t).length=t.size:=by rw [cells8,cY_len,size_list]
 have main : ∃ v' w',(Builtin.append_ #[115,9] o.type #[.slice (some ⟨g,0,none⟩) l.length cap,.string t]).run Tryz.prog w = .ok v' w'∧Row8 w' B v' (l++t.data.toList)∧Below B w w':=by
  by_cases hroom:l.length+t.size≤cap
  ·have hr:=run_append_room_src (P:=Tryz.prog) w 115 9 o.type 5 i0 Tryz.underlying115 hi g 0 l.length cap (.string t) t.size (byteCells t) (by rw [hz1]; exact Src.ofString w Tryz.underlying9 t) hroom
    (fun j hj=>by rw [hz1,Nat.mul_one,Nat.add_assoc]; exact (h4 (l.length+j) (by omega)).1) (fun j hj=>by rw [hz1,Nat.mul_one,Nat.add_assoc]; exact (h4 (l.length+j) (by omega)).2)
   refine ⟨_,_,hr,⟨g,cap,by simp,h1,?_,?_,World.there_setCells h4 _ _ _,by simp; omega⟩,?_⟩
   ·have:=World.isSome_setCells g (byteCells t) (0+l.length * i0.size) w
    rcases Nat.eq_zero_or_pos cap with h0 | h0
    ·have hb:(byteCells t)=[]:=List.length_eq_zero_iff.1 (by omega)
     rw [hb]; exact h2
    ·obtain ⟨u,hu⟩:=Option.isSome_iff_exists.1 (this ⟨g,0+0,none⟩ (h4 0 h0).1)
     exact World.block_lt_of_cell? _ _ hu
   ·rw [hz1,Nat.mul_one,cY_app]
    intro j u hu
    by_cases hj:j<l.length
    ·rw [List.getElem?_append_left (by rw [cY_len]; exact hj)] at hu
     exact World.rangeAt_setCells_apart h3 g (0+l.length) (byteCells t) (.inr (.inl (by rw [cY_len]; exact Nat.le_refl _))) j u hu
    ·rw [List.getElem?_append_right (by rw [cY_len]; omega),cY_len] at hu
     have:=World.rangeAt_setCells_same w g (0+l.length) (byteCells t) (fun j hj=>by rw [Nat.add_assoc]; exact h4 (l.length+j) (by omega)) (j - l.length) u hu
     rwa [show 0+l.length+(j - l.length)=0+j by omega] at this
   ·exact below_set8 h1 _ _ _
  ·have hr:=Lib.run_append_grow_string (P:=Tryz.prog) w 115 9 o.type 5 i0 (.int .u8 0) Tryz.underlying115 Tryz.underlying9 hi hz0 ⟨g,0,none⟩ l.length cap (cY l) (by rw [hz1,cY_len,Nat.mul_one]) (fun j u hu=>by rw [Addr.add_mid]; exact h3 j u hu) t (by omega) (by omega) (by rw [hz2]; exact growslice_fits (by omega) (by omega))
   have hge:=grownCap_ge w (l.length+t.size) cap 5
   refine ⟨_,_,hr,⟨w.heap.size,grownCap w (l.length+t.size) cap 5,by simp,hB,by simp,?_,?_,by simp; exact hge⟩,?_⟩
   ·intro j u hu
    show (w.drew.alloc _).cell? ⟨w.drew.heap.size,0+j,none⟩=some u
    rw [World.cell?_alloc_new,Nat.zero_add]
    rw [cY_app,← cells9] at hu
    rw [Array.getElem?_append_left (by have:=(List.getElem?_eq_some_iff.1 hu).1; simpa using this)]
    simpa using hu
   ·refine there_new w.drew _ 5 _ ?_
    have hz1':(Value.int IntKind.u8 0).cells.size=1:=rfl
    simp only [Array.size_append,List.size_toArray,size_zeroCells,hz1',cY_len,cells9,size_list]
    omega
   ·exact (below_drewN (Below.refl B w) 1).alloc hB _
 obtain ⟨v',w',hr,hw,hb⟩:=main
 unfold Oper.wp
 simp [execOp,hop,resolve,invoke,builtin,hs,hx,hr,Result.andThen]
 exact hK' _ _ (hK v' w' hw hb)
theorem bytes8 (W:World) (t:ByteArray) : ∃ v W',(convert 9 115 (.string t)).run Tryz.prog W = .ok v W'∧Row8 W' W.heap.size v t.data.toList∧Below W.heap.size W W':=by
 have h:=run_bytes_of_string (P:=Tryz.prog) W 9 115 5 t Tryz.underlying9 Tryz.underlying115 Tryz.underlying5
 exact ⟨_,_,h,row8_new W.drew t _ (grownCap_ge W t.size 0 5),(below_drewN (Below.refl _ W) 1).alloc (Nat.le_refl _) _⟩
theorem chain_at : ∀ {S:List Nat} {x n:Nat},Chain x S n → ∀ j,j<S.length→nxt x (S.take j)≤S.getD j 0∧S.getD j 0<n:=by
 intro S
 induction S with
 | nil=>intro x n _ j hj; simp at hj
 | cons i S ih =>
  intro x n h j hj
  cases j with
  | zero=>exact ⟨h.1,by have:=Cv.chain_le h.2; simp; omega⟩
  | succ j=>have:=ih h.2 j (by simpa using hj); simpa [nxt] using this
theorem laidL_le : ∀ {S:List Nat} {x n:Nat},Chain x S n→n≤2^64→(laidL x S).length≤10 * S.length:=by
 intro S
 induction S with
 | nil=>intro x n _ _; simp [laidL]
 | cons i S ih =>
  intro x n h hn
  have:=ih h.2 hn
  have:=Cv.chain_le h.2
  have:=num_len (n:=i - x) (by omega)
  rw [laidL,List.length_append,List.length_cons]
  omega
theorem laidL_part {n:Nat} (hn:n≤2^64) : ∀ {S:List Nat} {x:Nat},Chain x S n → ∀ j,(laidL x (S.take j)).length≤10 * S.length:=by
 intro S
 induction S with
 | nil=>intro x _ j; simp [laidL]
 | cons i S ih =>
  intro x h j
  cases j with
  | zero=>simp [laidL]
  | succ j =>
   have:=ih h.2 j
   have:=Cv.chain_le h.2
   have:=num_len (n:=i - x) (by omega)
   rw [List.take_succ_cons,laidL,List.length_append,List.length_cons]
   omega
theorem take_nextC {S:List Nat} {j:Nat} (hj:j<S.length):S.take (j+1)=S.take j++[S.getD j 0]:=by
 rw [List.take_add_one,List.getElem?_eq_getElem hj,List.getD_eq_getElem?_getD,List.getElem?_eq_getElem hj]; rfl
set_option maxRecDepth 100000 in
set_option maxHeartbeats 1000000 in
theorem laid_any (w:World) (sa:Option Addr) (sb so sc:Nat) (S:List Nat) (n:Nat) (rs:RdU w sa sb so S.length S) (hc:Chain 0 S n) (hn:n≤1099511627776) :
  Calls Tryz.prog 66 #[.slice sa S.length sc] w fun e w'=>e = .returned (.string ⟨(num S.length++laidL 0 S).toArray⟩)∧Below w.heap.size w w':=by
 have hl:=chain_len hc
 have HN:=fun W=>num_any W S.length (by omega)
 have e0:IntKind.u64.wrap (S.length:Int)=(S.length:Int):=by rw [IntKind.wrap_u64]; omega
 have HS:Hid (RdU w sa sb so S.length S∧Chain 0 S n∧n≤1099511627776∧S.length≤n):=⟨rs,hc,hn,by omega⟩
 have hm9:(S.length:Int)≤1099511627776:=by omega
 obtain ⟨m,hm⟩ : ∃ m,S.length=m:=⟨_,rfl⟩
 have HM:Hid (S.length=m):=hm
 rw [hm] at HN e0 hm9 ⊢
 clear rs hc hn hl hm
 have HZ:Hid ((num m).length≤10):=num_len (by omega)
 go_enter Tryz.func66,Tryz.ntmps66
 go_upto_region 2 with (go_at_call 65; with_reducible refine (HN _).mono ?_; rintro x w1 ⟨rfl,hb1⟩; (obtain ⟨v1,W1,kb1,r1,b1⟩:=bytes8 w1 ⟨(num m).toArray⟩))
 have HR:Hid (Row8 W1 w.heap.size v1 (num m++laidL 0 (S.take 0))∧Below w.heap.size w W1):=by
  obtain ⟨g,cap,h0,h1,h2⟩:=r1
  exact ⟨⟨g,cap,by simpa [laidL] using h0,Nat.le_trans hb1.size h1,by simpa [laidL] using h2⟩,bnext hb1 b1⟩
 clear kb1 r1 b1 hb1 HN
 go_wp2
 go_loopg [3,4,6,14] m (fun gg v x i6 ix wr => ∃ (j:Nat),j≤m∧gg=m - j∧ix = .int .i64 (j:Int)∧x = .int .u64 ((nxt 0 (S.take j):Nat):Int)∧Row8 wr w.heap.size v (num m++laidL 0 (S.take j))∧Below w.heap.size w wr)
 case atStart =>
  go_light
  exact ⟨0,Nat.zero_le _,rfl,rfl,rfl,HR.out.1,HR.out.2⟩
 case round =>
  obtain ⟨j,hj,rfl,rfl,rfl,hr,hb⟩:=hrel
  obtain ⟨k1,k2,k3,k4⟩:=HS.out
  have hmm:=HM.out
  have hz:=HZ.out
  have hj0:(0:Int)≤(j:Int):=Int.natCast_nonneg _
  by_cases hlt:j<m
  ·have hlt':(j:Int)<(m:Int):=by omega
   obtain ⟨g,cap,rfl,hr⟩:=hr
   obtain rfl:=k1.ptr (by omega)
   have cj:=(k1.next hb).at (j:=j) (by omega)
   obtain ⟨c1,c2⟩:=chain_at k2 j (by omega)
   have htk:=take_nextC (S:=S) (j:=j) (by omega)
   have hln:=laidL_part (n:=n) (by omega) k2 j
   obtain ⟨i,hi⟩ : ∃ i,S.getD j 0=i:=⟨_,rfl⟩
   rw [hi] at cj c1 c2 htk
   obtain ⟨y,hy⟩ : ∃ y,nxt 0 (S.take j)=y:=⟨_,rfl⟩
   rw [hy] at c1 ⊢
   have HN:=fun W=>num_any W (i - y) (by omega)
   have hnl:=num_len (n:=i - y) (by omega)
   have e1:IntKind.u64.wrap ((i:Int) - (y:Int))=((i - y:Nat):Int):=by rw [IntKind.wrap_u64]; omega
   have e2:IntKind.u64.wrap ((i:Int)+1)=((i+1:Nat):Int):=by rw [IntKind.wrap_u64]; omega
   have HX:Hid (num m++laidL 0 (S.take (j+1))=(num m++laidL 0 (S.take j))++num (i - y)∧nxt 0 (S.take (j+1))=i+1∧(num m++laidL 0 (S.take j)).length+(num (i - y)).length≤140737488355328∧Row8 wr w.heap.size (.slice (some ⟨g,0,none⟩) (num m++laidL 0 (S.take j)).length cap) (num m++laidL 0 (S.take j))∧Below w.heap.size w wr∧j+1≤m):=by
    refine ⟨by rw [htk,laidL_app,hy,List.append_assoc],by rw [htk,nxt_app],?_,⟨g,cap,rfl,hr⟩,hb,hlt⟩
    rw [List.length_append]
    omega
   generalize i - y=z at *
   generalize num m++laidL 0 (S.take j)=L at *
   clear hr hb k1 k2 k3 k4 hmm hz c1 c2 htk hln hi hy hnl hlt HR HS HZ HM
   go_wp2_with (first
    | (go_at_call 65; with_reducible refine (HN _).mono ?_; rintro x w1 ⟨rfl,hb1⟩)
    | (at_builtin; refine wpList_append_8 _ rfl _ _ rfl w.heap.size _ L rfl (HX.out.2.2.2.1.next hb1) ⟨(num z).toArray⟩ rfl ?c1 ?c2 ?_))
   case c1=>have:=HX.out.2.2.1; rw [show (⟨(num z).toArray⟩:ByteArray).size=(num z).length from by simp [ByteArray.size]]; exact this
   case c2=>exact Nat.le_trans HX.out.2.2.2.2.1.size hb1.size
   intro v2 w2 r2 b2
   go_wp2
   go_roundg (m - (j+1))
   case rel =>
    go_light
    obtain ⟨x1,x2,x3,x4,x5,x6⟩:=HX.out
    refine ⟨j+1,x6,rfl,by go_num,by rw [x2,Int.natCast_add]; rfl,?_,(x5.trans (hb1.mono x5.size)).trans b2⟩
    rw [x1]; exact r2
   case measure=>go_light; have:=HX.out.2.2.2.2.2; omega
  ·obtain rfl:j=m:=by omega
   have hlt' : ¬ (j:Int)<(j:Int):=by omega
   have e:S.take j=S:=by rw [← hmm,List.take_length]
   rw [e] at hr
   obtain ⟨L,hL⟩ : ∃ L,num j++laidL 0 S=L:=⟨_,rfl⟩
   rw [hL] at hr
   have HL:=hideC hL
   clear hL
   have cv:=hr.conv
   obtain ⟨g,cap,rfl,hr⟩:=hr
   have HB:=hideC hb
   clear hr hb k1 k2 k3 k4 hmm hz hlt e HR HS HZ HM
   go_wp2
   go_ret
   refine ⟨?_,HB.out⟩
   rw [HL.out]
   rfl
def hd (p:PV):List UInt8:=UInt8.ofNat p.kd.toNat::UInt8.ofNat p.k.toNat::(num p.size++mid p)
theorem enc_hd (p:PV):enc p=hd p++flatC p.D:=by simp [enc,hd,List.append_assoc]
theorem str_add (a b:List UInt8):(⟨a.toArray⟩:ByteArray)++⟨b.toArray⟩=⟨(a++b).toArray⟩:=by
 apply ba_ext
 rw [ByteArray.data_append]
 simp
theorem two_bytes (w:World) (a b:Nat) (ha:a<256) (hb:b<256):(convert 115 9 (.slice (some ⟨w.heap.size,0,none⟩) 2 2)).run Tryz.prog (w.alloc (.cells #[.int .u8 (a:Int),.int .u8 (b:Int)] 5)) = .ok (.string ⟨[UInt8.ofNat a,UInt8.ofNat b].toArray⟩) (w.alloc (.cells #[.int .u8 (a:Int),.int .u8 (b:Int)] 5)):=by
 refine run_convert_bytes_back _ 115 9 5 ⟨w.heap.size,0,none⟩ 2 [UInt8.ofNat a,UInt8.ofNat b] Tryz.underlying115 Tryz.underlying5 Tryz.underlying9 fun j hj => ?_
 rw [Addr.add_mid]
 have h1:=ofNat_toNat ha
 have h2:=ofNat_toNat hb
 refine range_new w [.int .u8 (a:Int),.int .u8 (b:Int)] 5 j _ ?_
 match j,hj with
 | 0,_=>simp [h1]
 | 1,_=>simp [h2]
theorem two_at {W:World} {g a b:Nat} (ha:a<256) (hb:b<256) (h:W.heap[g]? = some (.cells #[.int .u8 (a:Int),.int .u8 (b:Int)] 5 (0,0))):(convert 115 9 (.slice (some ⟨g,0,none⟩) 2 2)).run Tryz.prog W = .ok (.string ⟨[UInt8.ofNat a,UInt8.ofNat b].toArray⟩) W:=by
 refine run_convert_bytes_back _ 115 9 5 ⟨g,0,none⟩ 2 [UInt8.ofNat a,UInt8.ofNat b] Tryz.underlying115 Tryz.underlying5 Tryz.underlying9 fun j hj => ?_
 rw [Addr.add_mid,Nat.zero_add,cell_of_row W g j _ _ (0,0) h]
 have h1:=ofNat_toNat ha
 have h2:=ofNat_toNat hb
 match j,hj with
 | 0,_=>simp [h1]
 | 1,_=>simp [h2]
end Go.Proofs.YtipcenbndhnnhaaGreatDoor
