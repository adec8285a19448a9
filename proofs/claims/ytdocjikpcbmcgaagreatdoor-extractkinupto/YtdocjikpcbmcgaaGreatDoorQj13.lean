/- Own work. -/
import Derived.Deep.Upon
import Derived.Test.YtdocjikpcbmcgaaGreatDoorQj12
set_option maxRecDepth 100000
set_option maxHeartbeats 1000000
namespace Go.Proofs.YtdocjikpcbmcgaaGreatDoor
open Go.RowKit
attribute [local go_sem ↓] Go.wp_at_zero Go.wp_at_succ
def Er(w:World)(b:Nat)(e:Int):Prop:=w.heap[b]? = some (.cells #[.int .i64 e] 31 (0,0))
theorem Er.cell{w:World}{b:Nat}{e:Int}(h:Er w b e):w.cell? ⟨b,0,none⟩=some (.int .i64 e):=by rw[cell_of_row w b 0 _ _ (0,0) h];rfl
theorem Er.fz{w:World}{b:Nat}{e:Int}(h:Er w b e):w.frozen? ⟨b,0,none⟩=false:=frozen_of_row w b 0 _ _ h
theorem Er.same{w W:World}{b:Nat}{e:Int}(h:Er w b e)(hb:W.heap[b]? = w.heap[b]?):Er W b e:=hb.trans h
theorem Er.set{w:World}{b:Nat}{e:Int}(h:Er w b e)(e':Int):Er (w.setCell ⟨b,0,none⟩ (.int .i64 e')) b e':=heap_setCell_same w b 0 _ _ (.int .i64 e') h
theorem QaS(a b:Nat)(u:TypeId)(pv:Value)(older:List PanicEntry)(w:World){x0 x1 x2 x3 x4 x5:Value}{e:Int}(h6:Six w a x0 x1 x2 x3 x4 x5)(he:Er w b e)(hne:a≠b) :
  CallsD Tryz.prog 57 #[.pointer (some ⟨a,0,none⟩),.pointer (some ⟨b,0,none⟩)] (.panicking ({ v := .iface u pv,recovered:=false } :: older)) w fun e u' w' =>
   e = .returned (.tuple #[])∧u' = .panicking ({ v := .iface u pv,recovered:=true } :: older)∧w'=(QT w a (.int .i64 0) (.int .i64 0) (.int .u64 0) (.int .u64 0) (.slice none 0 0) (.slice none 0 0)).setCell ⟨b,0,none⟩ (.int .i64 140):=by
 obtain⟨c0,c1,c2,c3,c4,c5⟩:=h6.cells;have f0:=h6.fz;have g0:=he.cell;have g1:=he.fz;have hne' : ¬b=a:=fun h=>hne h.symm
 refine callsD_of_wpS Tryz.func57 rfl fun c₀ cs hu => ?_
 apply wpS_seq
 apply wpS_region
 simp[wpOpsS,go_sem,recoverD,hu,Tryz.ntmps57,Exit.thenS];refine wpS_cond (t:=true) (by simp[Act.eval,Array.replicate]) ?_
 simp only[if_true];refine wpS_of_wp ?_
 have ht:(#[Value.pointer (some ⟨a,0,none⟩),Value.pointer (some ⟨b,0,none⟩)]++((Array.replicate 3 undef).setIfInBounds 0 (Value.iface u pv)).setIfInBounds 1 (Value.bool true):Array Value)=#[Value.pointer (some ⟨a,0,none⟩),Value.pointer (some ⟨b,0,none⟩),Value.iface u pv,Value.bool true,undef]:=rfl;rw[ht];have k6:=h6.put (.int .i64 0) (.int .i64 0) (.int .u64 0) (.int .u64 0) (.slice none 0 0) (.slice none 0 0);have kc:=QP w a (.int .i64 0) (.int .i64 0) (.int .u64 0) (.int .u64 0) (.slice none 0 0) (.slice none 0 0);have ke:=he.same (kc.block b (by show ¬_=_;exact hne'))
 have k0:=ke.cell;have k1:=ke.fz;unfold QT at k0 k1 ⊢;clear k6 kc ke h6 he;go_wp2;simp[bodyPostS,results,Tryz.results57]
theorem Qfa(a b:Nat)(w:World) :
  CallsD Tryz.prog 57 #[.pointer (some ⟨a,0,none⟩),.pointer (some ⟨b,0,none⟩)] .returning w fun e u' w'=>e = .returned (.tuple #[])∧u' = .returning∧w'=w:=by
 refine callsD_of_wpS Tryz.func57 rfl fun c₀ cs hu => ?_
 apply wpS_seq
 apply wpS_region
 simp[wpOpsS,go_sem,recoverD,hu,Tryz.ntmps57,Exit.thenS];refine wpS_cond (t:=false) (by simp[Act.eval,Array.replicate]) ?_
 simp only[Bool.false_eq_true,if_false];refine wpS_of_wp (wp_skip ?_)
 cases c₀
 simp_all [bodyPostS,results,Tryz.results57]
def DecQ(w:World)(s:BA)(e:Ending)(w':World):Prop :=
 (∃P sv dv,dec s.data.toList=some P∧e = .returned (.tuple #[pv6 P.kd P.k P.old P.size sv dv,.int .i64 0])∧Cv.Own w' w.heap.size sv P.S∧Qk w' w.heap.size dv P.D∧Zb w w') ∨
  (dec s.data.toList=none∧e = .returned (.tuple #[noP,.int .i64 140])∧Zb w w')
structure D2(w W:World):Prop where
 six:Six W w.heap.size (.int .i64 0) (.int .i64 0) (.int .u64 0) (.int .u64 0) (.slice none 0 0) (.slice none 0 0)
 er:Er W (w.heap.size+1) 0
 below:Zb w W
theorem D2.next{w W W':World}(h:D2 w W)(hb : ∀b,b<w.heap.size+2->W'.heap[b]? = W.heap[b]?)(hw:Zb w W'):D2 w W' :=
 ⟨h.six.same (hb _ (by omega)),h.er.same (hb _ (by omega)),hw⟩
theorem Qmb(w:World)(o1 o2:Obj)(h1:o1 = .cells #[.int .i64 0,.int .i64 0,.int .u64 0,.int .u64 0,.slice none 0 0,.slice none 0 0] 55)(h2:o2 = .cells #[.int .i64 0] 31):D2 w ((w.alloc o1).alloc o2):=by
 subst h1 h2;refine⟨(QV w _ _ _ _ _ _).next (bal (Below.refl _ _) _),?_,bal (bal (Below.refl _ _) _) _⟩
 have:=heap_alloc_new (w.alloc (.cells #[.int .i64 0,.int .i64 0,.int .u64 0,.int .u64 0,.slice none 0 0,.slice none 0 0] 55)) (.cells #[.int .i64 0] 31);rw[Lp] at this;exact this
theorem Qby(w:World)(s:BA)(hs:s.size<=281474976710656) :
  Calls Tryz.prog 25 #[.string s] w (DecQ w s):=by
 have hmf : ∀(fn:Go.Fn) (first cap:Array Value) (w:World),(Instr.makeFunc fn first cap).run Tryz.prog w = .ok (.func fn first cap) w:=fun _ _ _ _=>rfl
 have K0:=Qmb w _ _ rfl rfl;obtain⟨W0,hW0⟩:=Ze ((w.alloc (.cells #[.int .i64 0,.int .i64 0,.int .u64 0,.int .u64 0,.slice none 0 0,.slice none 0 0] 55)).alloc (.cells #[.int .i64 0] 31));have hz0:W0.heap.size=w.heap.size+2:=by rw[<-hW0];simp
 rw[hW0] at K0;have HW:=Qi4 W0 s;have HP:=Qhv (W0.alloc (.cells #[.string s,.int .i64 0] 150)) W0.heap.size s (Qk1 W0 s _) hs;have hsz1:(W0.alloc (.cells #[.string s,.int .i64 0] 150)).heap.size=W0.heap.size+1:=Lp _ _;have hbr:=bal (Below.refl W0.heap.size W0) (.cells #[.string s,.int .i64 0] 150);have HK:Hid (∀w2,Ch W0.heap.size (W0.alloc (.cells #[.string s,.int .i64 0] 150)) w2->D2 w w2):=fun w2 hc=>K0.next (fun b hb=>(hc.block b (by omega) (by omega)).trans (hbr.block b (by omega))) ((K0.below.trans (hbr.mono (by omega))).trans (hc.below.mono (by omega)))
 have HZ:Hid (w.heap.size<=(W0.alloc (.cells #[.string s,.int .i64 0] 150)).heap.size):=(by rw[hsz1];omega:w.heap.size<=(W0.alloc (.cells #[.string s,.int .i64 0] 150)).heap.size)
 clear K0 hz0 hs hbr hsz1;obtain⟨W1,hW1⟩:=Ze (W0.alloc (.cells #[.string s,.int .i64 0] 150));rw[hW1] at HW HP HK HZ;clear hW1;obtain⟨q,hq⟩:=Ze W0.heap.size;rw[hq] at HW HP HK;clear hq
 cases hd:dec s.data.toList with
 | none =>
  have HP':Calls Tryz.prog 58 #[.pointer (some ⟨q,0,none⟩)] W1 fun e w'=>(∃u v,e = .panicked [{ v := .iface u v,recovered:=false }])∧Ch q W1 w':=HP.mono fun e w' h=>by
   rcases h with ⟨P,_,_,h,_⟩|⟨_,h1,h2⟩
   ·rw[hd] at h;cases h
   ·exact⟨h1,h2⟩
  clear HP
  go_enter_defers Tryz.func25,Tryz.ntmps25
  go_upto_region 2 with (fail)
  try rw[hW0]
  clear hW0
  go_wp2_with (first
   | (go_at_call 59;with_reducible refine HW.mono ?_;rintro x w1 ⟨rfl,rfl⟩)
   | (go_at_call 58;with_reducible refine HP'.mono ?_;rintro x w2 ⟨⟨u,v,rfl⟩,hc⟩))
  refine leaves_cons (f:=57) (args:=#[.pointer (some ⟨w.heap.size,0,none⟩),.pointer (some ⟨w.heap.size+1,0,none⟩)]) (by simp) (by simp[go_sem]) ?_
  have K:=HK.out _ hc;refine(QaS _ _ u v [] _ K.six K.er (by omega)).mono ?_
  rintro e u' w'' ⟨rfl,rfl,rfl⟩;have h6:=K.six.put (.int .i64 0) (.int .i64 0) (.int .u64 0) (.int .u64 0) (.slice none 0 0) (.slice none 0 0);have kc:=QP w2 w.heap.size (.int .i64 0) (.int .i64 0) (.int .u64 0) (.int .u64 0) (.slice none 0 0) (.slice none 0 0);have ke:=(K.er.same (kc.block _ (by show ¬_=_;omega))).set 140
  have hb1:Zb w (QT w2 w.heap.size (.int .i64 0) (.int .i64 0) (.int .u64 0) (.int .u64 0) (.slice none 0 0) (.slice none 0 0)):=K.below.trans (kc.below (by rintro b rfl;exact Lb _))
  have hb2:=hb1.setCell (p:=⟨w.heap.size+1,0,none⟩) (by show w.heap.size<=w.heap.size+1;omega) (.int .i64 140)
  have h6':=h6.same (W:=(QT w2 w.heap.size (.int .i64 0) (.int .i64 0) (.int .u64 0) (.int .u64 0) (.slice none 0 0) (.slice none 0 0)).setCell ⟨w.heap.size+1,0,none⟩ (.int .i64 140)) (Below.heap_setCell _ _ _ _ (by show w.heap.size≠w.heap.size+1;omega))
  obtain⟨s0,s1,s2,s3,s4,s5⟩:=h6'.cells;have t0:=ke.cell;have HF:Hid (DecQ w s (.returned (.tuple #[noP,.int .i64 140])) ((QT w2 w.heap.size (.int .i64 0) (.int .i64 0) (.int .u64 0) (.int .u64 0) (.slice none 0 0) (.slice none 0 0)).setCell ⟨w.heap.size+1,0,none⟩ (.int .i64 140))) := .inr ⟨hd,rfl,hb2⟩;generalize (QT w2 w.heap.size (.int .i64 0) (.int .i64 0) (.int .u64 0) (.int .u64 0) (.slice none 0 0) (.slice none 0 0)).setCell ⟨w.heap.size+1,0,none⟩ (.int .i64 140)=F at *;simp[Leaves,settle,results,Tryz.results25,go_sem,s0,s1,s2,s3,s4,s5,t0];exact HF.out
 | some P =>
  have HP':Calls Tryz.prog 58 #[.pointer (some ⟨q,0,none⟩)] W1 fun e w' => ∃sv dv,e = .returned (pv6 P.kd P.k P.old P.size sv dv)∧Cv.Own w' W1.heap.size sv P.S∧Qk w' W1.heap.size dv P.D∧Ch q W1 w':=HP.mono fun e w' h=>by
   rcases h with ⟨P',sv,dv,h,h2⟩|⟨h,_⟩
   ·rw[hd] at h;cases h;exact⟨sv,dv,h2⟩
   ·rw[hd] at h;cases h
  clear HP;obtain⟨kd,k,old,size,S,D⟩:=P;simp only at HP';have HD:=Qg hd;clear hd
  go_enter_defers Tryz.func25,Tryz.ntmps25
  go_upto_region 2 with (fail)
  try rw[hW0]
  clear hW0
  go_wp2_with (first
   | (go_at_call 59;with_reducible refine HW.mono ?_;rintro x w1 ⟨rfl,rfl⟩)
   | (go_at_call 58;(with_reducible refine HP'.mono ?_);rintro x w2 ⟨sv,dv,rfl,o1,o2,hc⟩;(obtain⟨ao,m,c,rfl⟩:=Cv.Qh o1);(obtain⟨ao2,m2,c2,rfl⟩:=Cv.Qh o2);(have K:=HK.out _ hc);(obtain⟨e0,e1,e2,e3,e4,e5⟩:=K.six.cells);(have f0:=K.six.fz);(have kc:=QP w2 w.heap.size (.int .i64 kd) (.int .i64 k) (.int .u64 (old:Int)) (.int .u64 (size:Int)) (.slice ao m c) (.slice ao2 m2 c2));(have ke:=K.er.same (kc.block _ (by show ¬_=_;omega)));(have k0:=ke.cell);(have k1:=ke.fz);(unfold QT at k0 k1);(have HH:Hid (Cv.Own w2 w1.heap.size (.slice ao m c) S∧Qk w2 w1.heap.size (.slice ao2 m2 c2) D∧D2 w w2):=⟨o1,o2,K⟩);clear o1 o2 hc K kc ke))
  refine leaves_cons (f:=57) (args:=#[.pointer (some ⟨w.heap.size,0,none⟩),.pointer (some ⟨w.heap.size+1,0,none⟩)]) (by simp) (by simp[go_sem]) ?_
  refine(Qfa _ _ _).mono ?_
  rintro e u' w'' ⟨rfl,rfl,rfl⟩;obtain⟨o1,o2,K⟩:=HH.out;have h6:=K.six.put (.int .i64 kd) (.int .i64 k) (.int .u64 (old:Int)) (.int .u64 (size:Int)) (.slice ao m c) (.slice ao2 m2 c2);have kc:=QP w2 w.heap.size (.int .i64 kd) (.int .i64 k) (.int .u64 (old:Int)) (.int .u64 (size:Int)) (.slice ao m c) (.slice ao2 m2 c2);have ke':=K.er.same (kc.block _ (by show ¬_=_;omega))
  have ke:=ke'.set 0;have hb1:Zb w (QT w2 w.heap.size (.int .i64 kd) (.int .i64 k) (.int .u64 (old:Int)) (.int .u64 (size:Int)) (.slice ao m c) (.slice ao2 m2 c2)):=K.below.trans (kc.below (by rintro b rfl;exact Lb _))
  have hb2:=hb1.setCell (p:=⟨w.heap.size+1,0,none⟩) (by show w.heap.size<=w.heap.size+1;omega) (.int .i64 0)
  have h6':=h6.same (W:=(QT w2 w.heap.size (.int .i64 kd) (.int .i64 k) (.int .u64 (old:Int)) (.int .u64 (size:Int)) (.slice ao m c) (.slice ao2 m2 c2)).setCell ⟨w.heap.size+1,0,none⟩ (.int .i64 0)) (Below.heap_setCell _ _ _ _ (by show w.heap.size≠w.heap.size+1;omega))
  have hne : ∀ {e n:Nat} {v:Value} {xs:List Value},w2.ownsRow w1.heap.size e 1 v n xs->e≠55->e≠31->((QT w2 w.heap.size (.int .i64 kd) (.int .i64 k) (.int .u64 (old:Int)) (.int .u64 (size:Int)) (.slice ao m c) (.slice ao2 m2 c2)).setCell ⟨w.heap.size+1,0,none⟩ (.int .i64 0)).ownsRow w.heap.size e 1 v n xs:=fun {e n v xs} ho h1 h2=>by
   refine Qj (ho.mono HZ.out) fun g hg _ => ?_
   have n1:=YU ho K.six h1 g hg;have n2:g≠w.heap.size+1:=by
    rintro rfl
    rcases ho.2 with ⟨rfl,_⟩|⟨g',cap,cur,rfl,_,hh,_⟩
    ·cases hg
    ·cases hg;have:=K.er;rw[Er,hh] at this;injection this with this
     injection this with _ e2 _
     exact h2 e2
   rw[Below.heap_setCell _ _ _ _ (by show g≠w.heap.size+1;exact n2)]
   exact kc.block g n1
  obtain⟨s0,s1,s2,s3,s4,s5⟩:=h6'.cells;have t0:=ke.cell;have HF:Hid (DecQ w s (.returned (.tuple #[pv6 kd k old size (.slice ao m c) (.slice ao2 m2 c2),.int .i64 0])) ((QT w2 w.heap.size (.int .i64 kd) (.int .i64 k) (.int .u64 (old:Int)) (.int .u64 (size:Int)) (.slice ao m c) (.slice ao2 m2 c2)).setCell ⟨w.heap.size+1,0,none⟩ (.int .i64 0))) := .inl ⟨_,_,_,HD.out,rfl,hne o1 (by decide) (by decide),hne o2 (by decide) (by decide),hb2⟩
  unfold QT at HF s0 s1 s2 s3 s4 s5 t0;simp[Leaves,settle,results,Tryz.results25,go_sem,s0,s1,s2,s3,s4,s5,t0];exact HF.out
section
open Cv (QX)
theorem Qh9 : ∀ {S:List Nat} {x n:Nat},QX x S n -> ∀j,j<S.length->nxt x (S.take j)<=S.getD j 0∧S.getD j 0<n:=by
 intro S
 induction S with
 | nil=>intro x n _ j hj;simp at hj
 | cons i S ih =>
  intro x n h j hj
  cases j with
  | zero=>exact⟨h.1,by have:=Cv.Ug h.2;simp;omega⟩
  | succ j=>have:=ih h.2 j (by simpa using hj);simpa [nxt] using this
theorem QiY : ∀ {S:List Nat} {x n:Nat},QX x S n->n<=2^64->(Qr x S).length<=10*S.length:=by
 intro S
 induction S with
 | nil=>intro x n _ _;simp[Qr]
 | cons i S ih =>
  intro x n h hn;have:=ih h.2 hn;have:=Cv.Ug h.2;have:=Yl (n:=i - x) (by omega)
  rw[Qr,Ld,Lu];omega
theorem UF{S:List Nat}{j:Nat}(hj:j<S.length):S.take (j+1)=S.take j++[S.getD j 0]:=by
 rw[NA,Lc hj,La,Lc hj];rfl
def hd(p:PV):List UInt8:=UInt8.ofNat p.kd.toNat::UInt8.ofNat p.k.toNat::(num p.size++mid p)
theorem Qmj(p:PV):enc p=hd p++QG p.D:=by simp[enc,hd,List.append_assoc]
theorem Ur(a b:List UInt8):(⟨a.toArray⟩:BA)++⟨b.toArray⟩=⟨(a++b).toArray⟩:=by
 apply Qbl
 rw[ID];simp
theorem QhW(w:World)(a b:Nat)(ha:a<256)(hb:b<256):(convert 95 9 (.slice (some ⟨w.heap.size,0,none⟩) 2 2)).run Tryz.prog (w.alloc (.cells #[.int .u8 (a:Int),.int .u8 (b:Int)] 5)) = .ok (.string ⟨[UInt8.ofNat a,UInt8.ofNat b].toArray⟩) (w.alloc (.cells #[.int .u8 (a:Int),.int .u8 (b:Int)] 5)):=by
 refine run_convert_bytes_back _ 95 9 5 ⟨w.heap.size,0,none⟩ 2 [UInt8.ofNat a,UInt8.ofNat b] Tryz.underlying95 Tryz.underlying5 Tryz.underlying9 fun j hj => ?_
 rw[Addr.add_mid];have h1:=QF ha;have h2:=QF hb;refine Qv w [.int .u8 (a:Int),.int .u8 (b:Int)] 5 j _ ?_
 match j,hj with
 | 0,_=>simp[h1]
 | 1,_=>simp[h2]
theorem QmY{W:World}{g a b:Nat}(ha:a<256)(hb:b<256)(h:W.heap[g]? = some (.cells #[.int .u8 (a:Int),.int .u8 (b:Int)] 5 (0,0))):(convert 95 9 (.slice (some ⟨g,0,none⟩) 2 2)).run Tryz.prog W = .ok (.string ⟨[UInt8.ofNat a,UInt8.ofNat b].toArray⟩) W:=by
 refine run_convert_bytes_back _ 95 9 5 ⟨g,0,none⟩ 2 [UInt8.ofNat a,UInt8.ofNat b] Tryz.underlying95 Tryz.underlying5 Tryz.underlying9 fun j hj => ?_
 rw[Addr.add_mid,Ll,cell_of_row W g j _ _ (0,0) h];have h1:=QF ha;have h2:=QF hb
 match j,hj with
 | 0,_=>simp[h1]
 | 1,_=>simp[h2]
end
structure RdPC(w:World)(sa:OA)(sb so sc:Nat)(da:OA)(db dO dc:Nat)(P:PV):Prop where
 rs:RdU w sa sb so P.S.length P.S
 rd:RdS w da db dO P.D.length P.D
 old64:P.old<18446744073709551616
 sz64:P.size<18446744073709551616
 mS:P.S.length<=17592186044416
 mD:P.D.length<=8796093022208
 cD:P.D.length<=dc
theorem RdPC.next{w w':World}{sa:OA}{sb so sc:Nat}{da:OA}{db dO dc:Nat}{P:PV}(h:RdPC w sa sb so sc da db dO dc P)(hb:Zb w w'):RdPC w' sa sb so sc da db dO dc P :=
 ⟨h.rs.next hb,h.rd.next hb (Lb _),h.old64,h.sz64,h.mS,h.mD,h.cD⟩
abbrev pvP(P:PV)(sa:OA)(sc:Nat)(da:OA)(dc:Nat):Value:=pv6 P.kd P.k P.old P.size (.slice sa P.S.length sc) (.slice da P.D.length dc)
theorem QlB{P:PV}{j:Nat}(hj:j<P.D.length)(h:((P.D.getD j ByteArray.empty).size:Int)≠P.k) : ¬Y3 P:=fun hw=>h (hw.2 _ (QI hj))
theorem QjW{P:PV}(hc:cnt P.kd P.k P.old P.size P.S=some P.D.length)(h : ∀j,j<P.D.length->((P.D.getD j ByteArray.empty).size:Int)=P.k):Y3 P :=
 ⟨hc,fun d hd=>by
  obtain⟨j,hj,rfl⟩:=LZ hd;have:=h j hj
  rwa [La,Lc hj] at this⟩
section
variable (w:World) (sa:OA) (sb so sc:Nat) (da:OA) (db dO dc:Nat) (P:PV)
theorem Qmp{P:PV}{c:Nat}(ho:CntOk P.kd P.k P.old P.size P.S c):(hd P).length<=35184372088832:=by
 have h1:=Yl (n:=P.size) (by have:=ho.hsz;omega)
 have h2:(mid P).length<=11*1099511627776+10:=by
  unfold mid;have hl:=ho.len;have hz:=ho.hsz
  split
  ·rename_i h
   obtain⟨g1,g2⟩:=ho.one h;have:=Yl (n:=P.S.getD 0 0) (by have:=(Qh9 ho.chain 0 (by omega)).2;omega)
   omega
  ·split
   ·have:=QiY ho.chain (by omega)
    have:=Yl (n:=P.S.length) (by omega)
    rw[Ld];omega
   ·have:=Yl (n:=P.old) (by have:=ho.hold;omega)
    omega
 rw[hd,Lu,Lu,Ld];omega
theorem Qkq{P:PV}(h:Y3 P):(QG P.D).length<=35184372088832:=by
 have ho:=QL h.1;have hk:=ho.k32;have hk1:=ho.k1;obtain⟨b,hb⟩ : ∃b:Nat,P.k=b:=⟨P.k.toNat,by omega⟩
 have e:(QG P.D).length=P.D.length*b:=QbD (fun d hd=>by have:=h.2 d hd;omega)
 have:=ho.hc;have:P.D.length*b<=1099511627776*32:=Wg this (by omega)
 omega
theorem Qkm{P:PV}(h:Y3 P):(enc P).length<=70368744177664:=by
 have h1:=Qmp (QL h.1);have h2:=Qkq h;rw[Qmj,Ld];omega
end
theorem Qeb(w:World)(s:BA)(hs:s.size<=281474976710656)(h:dec s.data.toList=none) :
  Zr 25 #[.string s] w (.tuple #[noP,.int .i64 140]):=by
 refine(Qby w s hs).mono ?_
 rintro e w' (⟨P,_,_,h1,_⟩|⟨_,h2,h3⟩)
 ·rw[h] at h1;cases h1
 ·exact⟨h2,h3⟩
structure RdF(w:World)(sa:OA)(sb sc:Nat)(da:OA)(db dc:Nat)(P:PV):Prop where
 p:RdPC w sa sb 0 sc da db 0 dc P
 cS:P.S.length<=sc
 nS:sa=none->sc=0
 nD:da=none->dc=0
 mC:dc<=9223372036854775807
theorem RdF.next{w W:World}{sa:OA}{sb sc:Nat}{da:OA}{db dc:Nat}{P:PV}(h:RdF w sa sb sc da db dc P)(hb:Zb w W):RdF W sa sb sc da db dc P:=⟨h.p.next hb,h.cS,h.nS,h.nD,h.mC⟩
theorem Qge{w:World}{B T s n c m:Nat}{ao:OA}{xs:List Value}(h:w.ownsRow B T s (.slice ao n c) m xs):n=m∧n<=c∧c<=9223372036854775807:=by
 rcases h.2 with ⟨h1,h0⟩|⟨g,cap,cur,h1,hg,hh,hc1,hc2,_⟩
 ·injection h1 with _ h2 h3
  subst h2 h3;exact⟨h0.symm,Lb _,Lf _⟩
 ·injection h1 with _ h2 h3
  subst h2 h3;exact⟨rfl,hc1,hc2⟩
theorem Qgj{w:World}{B:Nat}{sv dv:Value}{P:PV}(h:Y3 P)(o1:Cv.Own w B sv P.S)(o2:Qk w B dv P.D) : ∃sa sb sc da db dc,sv = .slice sa P.S.length sc∧dv = .slice da P.D.length dc∧RdF w sa sb sc da db dc P:=by
 have ho:=QL h.1;have i1:=ho.hold;have i2:=ho.hsz;have i3:=ho.len;have i4:=ho.hc;have i5:=ho.k32;obtain⟨sa,sb,sc,rfl,r1,n1⟩:=UC o1;obtain⟨da,db,dc,rfl,r2,r3,n2⟩:=Qn o2 (fun d hd=>by have:=h.2 d hd;omega)
 exact⟨sa,sb,sc,da,db,dc,rfl,rfl,⟨r1,r2,by omega,by omega,by omega,by omega,r3⟩,(Qge o1).2.1,n1,n2,(Qge o2).2.2⟩
theorem UJ(w:World)(s:BA)(hs:s.size<=281474976710656)(P:PV)(h:dec s.data.toList=some P) :
  Calls Tryz.prog 25 #[.string s] w fun e w' => ∃sa sb sc da db dc,e = .returned (.tuple #[.agg #[.int .i64 P.kd,.int .i64 P.k,.int .u64 (P.old:Int),.int .u64 (P.size:Int),.slice sa P.S.length sc,.slice da P.D.length dc],.int .i64 0])∧RdF w' sa sb sc da db dc P∧(Cv.Own w' w.heap.size (.slice sa P.S.length sc) P.S∧Qk w' w.heap.size (.slice da P.D.length dc) P.D)∧Zb w w':=by
 refine(Qby w s hs).mono ?_
 rintro e w' (⟨P',sv,dv,h1,rfl,h3,h4,h5⟩|⟨h1,_⟩)
 ·rw[h] at h1;cases h1;obtain⟨sa,sb,sc,da,db,dc,rfl,rfl,r⟩:=Qgj (J9 h).1 h3 h4;exact⟨sa,sb,sc,da,db,dc,rfl,r,⟨h3,h4⟩,h5⟩
 ·rw[h] at h1;cases h1
def tkE(k:Int)(s:BA):Int:=if k<1∨32<k then 70 else match dec s.data.toList with|none=>140|some P=>if P.k=k then 0 else 150
theorem Qc1{k e0:Int}{s:BA}(h:tkE k s=e0)(h0:e0≠0):(chk k=70∧e0=70)∨(chk k=0∧dec s.data.toList=none∧e0=140)∨(chk k=0 ∧ ∃P,dec s.data.toList=some P∧P.k≠k∧e0=150):=by
 unfold tkE at h
 by_cases hk:k<1∨32<k
 ·rw[if_pos hk] at h;exact .inl ⟨by rw[chk,if_pos hk],h.symm⟩
 ·rw[if_neg hk] at h;have hc:chk k=0:=by rw[chk,if_neg hk]
  cases hd:dec s.data.toList with
  | none=>rw[hd] at h;exact .inr (.inl ⟨hc,rfl,h.symm⟩)
  | some P =>
   rw[hd] at h
   by_cases hp:P.k=k
   ·simp only[if_pos hp] at h;exact absurd h.symm h0
   ·simp only[if_neg hp] at h;exact .inr (.inr ⟨hc,P,rfl,hp,h.symm⟩)
theorem QeX{k:Int}{s:BA}(h:tkE k s=0):(1<=k∧k<=32) ∧ ∃P,dec s.data.toList=some P∧P.k=k:=by
 unfold tkE at h
 by_cases hk:k<1∨32<k
 ·rw[if_pos hk] at h;cases h
 ·rw[if_neg hk] at h
  cases hd:dec s.data.toList with
  | none=>rw[hd] at h;cases h
  | some P =>
   rw[hd] at h
   by_cases hp:P.k=k
   ·exact⟨by omega,P,rfl,hp⟩
   ·simp only[if_neg hp] at h;cases h
theorem QjJ(w:World)(k:Int)(s:BA)(hs:s.size<=281474976710656)(e0:Int)(he:tkE k s=e0)(h0:e0≠0) :
  Zr 27 #[.int .i64 k,.string s] w (.tuple #[noP,.int .i64 e0]):=by
 obtain⟨W0,hW0,h6,hb0,_⟩:=Yu w (.int .i64 0) (.int .i64 0) (.int .u64 0) (.int .u64 0) (.slice none 0 0) (.slice none 0 0);have HX:Hid (∀F,Zb W0 F->Six F w.heap.size (.int .i64 0) (.int .i64 0) (.int .u64 0) (.int .u64 0) (.slice none 0 0) (.slice none 0 0)∧Zb w F):=fun F hF=>⟨h6.next hF,Qa hb0 hF⟩
 clear h6 hb0
 rcases Qc1 he h0 with ⟨hc,rfl⟩|⟨hc,hd,rfl⟩|⟨hc,P,hd,hp,rfl⟩
 ·have HC:Hid (∀W,Calls Tryz.prog 61 #[.int .i64 k] W fun e w'=>e = .returned (.int .i64 70)∧w'=W):=fun W=>by rw[<-hc];exact QW W k
  clear hc he h0 hs;obtain⟨x6,xb⟩:=HX.out _ (Below.refl _ _);obtain⟨c0,c1,c2,c3,c4,c5⟩:=x6.cells;have fz:=x6.fz;have hp:=x6.put (.int .i64 0) (.int .i64 0) (.int .u64 0) (.int .u64 0) (.slice none 0 0) (.slice none 0 0);have hc:=QP W0 w.heap.size (.int .i64 0) (.int .i64 0) (.int .u64 0) (.int .u64 0) (.slice none 0 0) (.slice none 0 0);unfold QT at hp hc;have HB:=Qc (And.intro hp (And.intro hc xb));clear hp hc xb x6
  go_enter Tryz.func27,Tryz.ntmps27
  go_upto_region 1 with (fail)
  try rw[hW0]
  clear hW0
  go_upto_region 3 with (go_at_call 61;with_reducible refine(HC.out _).mono ?_;rintro e w1 ⟨rfl,rfl⟩)
  repeat go_step
  obtain⟨hp,hc,xb⟩:=HB.out;obtain⟨s0,s1,s2,s3,s4,s5⟩:=hp.cells;refine bodyPost_ret (v := .tuple #[noP,.int .i64 70]) (by simp[results,Tryz.results27,go_sem,s0,s1,s2,s3,s4,s5]) rfl ⟨rfl,xb.trans (hc.below (by rintro b rfl;omega))⟩
 ·have HC:Hid (∀W,Calls Tryz.prog 61 #[.int .i64 k] W fun e w'=>e = .returned (.int .i64 0)∧w'=W):=fun W=>by rw[<-hc];exact QW W k
  have HD:Hid (∀W,Zr 25 #[.string s] W (.tuple #[noP,.int .i64 140])):=fun W=>Qeb W s hs hd
  clear hc he h0 hs hd
  go_enter Tryz.func27,Tryz.ntmps27
  go_upto_region 1 with (fail)
  try rw[hW0]
  clear hW0
  go_upto_region 5 with (first
   | (go_at_call 61;with_reducible refine(HC.out _).mono ?_;rintro e w1 ⟨rfl,rfl⟩)
   | (go_at_call 25;with_reducible refine(HD.out _).mono ?_;rintro e w2 ⟨rfl,hb2⟩))
  obtain⟨F,hF,h7,hb3,_⟩:=Yu w2 (.int .i64 0) (.int .i64 0) (.int .u64 0) (.int .u64 0) (.slice none 0 0) (.slice none 0 0)
  try rw[hF]
  clear hF h7;obtain⟨x6,xb⟩:=HX.out _ (Qa hb2 hb3);obtain⟨c0,c1,c2,c3,c4,c5⟩:=x6.cells;have fz:=x6.fz;have hp:=x6.put (.int .i64 0) (.int .i64 0) (.int .u64 0) (.int .u64 0) (.slice none 0 0) (.slice none 0 0);have hc:=QP F w.heap.size (.int .i64 0) (.int .i64 0) (.int .u64 0) (.int .u64 0) (.slice none 0 0) (.slice none 0 0);unfold QT at hp hc;have HB:=Qc (And.intro hp (And.intro hc xb));clear hp hc xb x6 hb2 hb3
  repeat go_step
  obtain⟨hp,hc,xb⟩:=HB.out;obtain⟨s0,s1,s2,s3,s4,s5⟩:=hp.cells;refine bodyPost_ret (v := .tuple #[noP,.int .i64 140]) (by simp[results,Tryz.results27,go_sem,s0,s1,s2,s3,s4,s5]) rfl ⟨rfl,xb.trans (hc.below (by rintro b rfl;omega))⟩
 ·have HC:Hid (∀W,Calls Tryz.prog 61 #[.int .i64 k] W fun e w'=>e = .returned (.int .i64 0)∧w'=W):=fun W=>by rw[<-hc];exact QW W k
  have HD:Hid (∀W,Calls Tryz.prog 25 #[.string s] W fun e w' => ∃(kd kk:Int) (old size:Nat) (sa:OA) (ns sc:Nat) (da:OA) (nd' dc:Nat),(kk == k)=false ∧ ¬kk=k∧e = .returned (.tuple #[.agg #[.int .i64 kd,.int .i64 kk,.int .u64 (old:Int),.int .u64 (size:Int),.slice sa ns sc,.slice da nd' dc],.int .i64 0])∧Zb W w'):=fun W=>(UJ W s hs P hd).mono fun e w' ⟨sa,sb,sc,da,db,dc,h1,_,_,h3⟩=>⟨P.kd,P.k,P.old,P.size,sa,P.S.length,sc,da,P.D.length,dc,by simpa using hp,hp,h1,h3⟩
  clear hc he h0 hs hd hp
  go_enter Tryz.func27,Tryz.ntmps27
  go_upto_region 1 with (fail)
  try rw[hW0]
  clear hW0
  go_upto_region 5 with (first
   | (go_at_call 61;with_reducible refine(HC.out _).mono ?_;rintro e w1 ⟨rfl,rfl⟩)
   | (go_at_call 25;with_reducible refine(HD.out _).mono ?_;rintro e w2 ⟨kd,kk,old,size,sa,ns,sc,da,nd',dc,hkb,hkn,rfl,hb2⟩))
  obtain⟨F,hF,h7,hb3,_⟩:=Yu w2 (.int .i64 kd) (.int .i64 kk) (.int .u64 (old:Int)) (.int .u64 (size:Int)) (.slice sa ns sc) (.slice da nd' dc)
  try rw[hF]
  clear hF;have m1:=h7.cells.2.1;obtain⟨x6,xb⟩:=HX.out _ (Qa hb2 hb3);obtain⟨c0,c1,c2,c3,c4,c5⟩:=x6.cells;have fz:=x6.fz;have hp:=x6.put (.int .i64 0) (.int .i64 0) (.int .u64 0) (.int .u64 0) (.slice none 0 0) (.slice none 0 0);have hc:=QP F w.heap.size (.int .i64 0) (.int .i64 0) (.int .u64 0) (.int .u64 0) (.slice none 0 0) (.slice none 0 0);unfold QT at hp hc;have HB:=Qc (And.intro hp (And.intro hc xb));clear hp hc xb x6 hb2 hb3 h7
  repeat go_step
  obtain⟨hp,hc,xb⟩:=HB.out;obtain⟨s0,s1,s2,s3,s4,s5⟩:=hp.cells;refine bodyPost_ret (v := .tuple #[noP,.int .i64 150]) (by simp[results,Tryz.results27,go_sem,s0,s1,s2,s3,s4,s5]) rfl ⟨rfl,xb.trans (hc.below (by rintro b rfl;omega))⟩
theorem QeT(w:World)(k:Int)(k1:1<=k)(k2:k<=32)(s:BA)(hs:s.size<=281474976710656)(P:PV)(hd:dec s.data.toList=some P)(hk:P.k=k) :
  Calls Tryz.prog 27 #[.int .i64 k,.string s] w fun e w' => ∃sa sb sc da db dc,e = .returned (.tuple #[.agg #[.int .i64 P.kd,.int .i64 k,.int .u64 (P.old:Int),.int .u64 (P.size:Int),.slice sa P.S.length sc,.slice da P.D.length dc],.int .i64 0])∧RdF w' sa sb sc da db dc P∧Zb w w':=by
 have hw:=(J9 hd).1;obtain⟨kd,kk,old,size,S,D⟩:=P;simp only at hk;subst hk;obtain⟨W0,hW0,h6,hb0,_⟩:=Yu w (.int .i64 0) (.int .i64 0) (.int .u64 0) (.int .u64 0) (.slice none 0 0) (.slice none 0 0);have HX:Hid (∀F,Zb W0 F->Six F w.heap.size (.int .i64 0) (.int .i64 0) (.int .u64 0) (.int .u64 0) (.slice none 0 0) (.slice none 0 0)∧Zb w F):=fun F hF=>⟨h6.next hF,Qa hb0 hF⟩
 have HZ:Hid (w.heap.size<W0.heap.size):=h6.lt;have HC:Hid (∀W,Calls Tryz.prog 61 #[.int .i64 kk] W fun e w'=>e = .returned (.int .i64 0)∧w'=W):=fun W=>by
  have hc:chk kk=0:=by rw[chk,if_neg (by omega)]
  rw[<-hc];exact QW W kk
 have HD:Hid (∀W,Calls Tryz.prog 25 #[.string s] W fun e w' => ∃sa sc da dc,e = .returned (.tuple #[.agg #[.int .i64 kd,.int .i64 kk,.int .u64 (old:Int),.int .u64 (size:Int),.slice sa S.length sc,.slice da D.length dc],.int .i64 0])∧Hid (Cv.Own w' W.heap.size (.slice sa S.length sc) S∧Qk w' W.heap.size (.slice da D.length dc) D)∧Zb W w'):=fun W=>(UJ W s hs _ hd).mono fun e w' ⟨sa,sb,sc,da,db,dc,h1,_,h2,h3⟩=>⟨sa,sc,da,dc,h1,h2,h3⟩
 have HW:=Qc hw;clear h6 hb0 hs hd k1 k2 hw
 go_enter Tryz.func27,Tryz.ntmps27
 go_upto_region 1 with (fail)
 try rw[hW0]
 clear hW0
 go_upto_region 5 with (first
  | (go_at_call 61;with_reducible refine(HC.out _).mono ?_;rintro e w1 ⟨rfl,rfl⟩)
  | (go_at_call 25;with_reducible refine(HD.out _).mono ?_;rintro e w2 ⟨sa,sc,da,dc,rfl,HO,hb2⟩))
 obtain⟨F,hF,h7,hb3,_⟩:=Yu w2 (.int .i64 kd) (.int .i64 kk) (.int .u64 (old:Int)) (.int .u64 (size:Int)) (.slice sa S.length sc) (.slice da D.length dc)
 try rw[hF]
 clear hF;obtain⟨m0,m1,m2,m3,m4,m5⟩:=h7.cells;obtain⟨x6,xb⟩:=HX.out _ (Qa hb2 hb3);obtain⟨c0,c1,c2,c3,c4,c5⟩:=x6.cells;have fz:=x6.fz;have hp:=x6.put (.int .i64 kd) (.int .i64 kk) (.int .u64 (old:Int)) (.int .u64 (size:Int)) (.slice sa S.length sc) (.slice da D.length dc);have hc:=QP F w.heap.size (.int .i64 kd) (.int .i64 kk) (.int .u64 (old:Int)) (.int .u64 (size:Int)) (.slice sa S.length sc) (.slice da D.length dc);have hr : ∃sb db,RdF (QT F w.heap.size (.int .i64 kd) (.int .i64 kk) (.int .u64 (old:Int)) (.int .u64 (size:Int)) (.slice sa S.length sc) (.slice da D.length dc)) sa sb sc da db dc ⟨kd,kk,old,size,S,D⟩:=by
  obtain⟨o1,o2⟩:=HO.out;have hz:=HZ.out;have z1:Cv.Own (QT F w.heap.size (.int .i64 kd) (.int .i64 kk) (.int .u64 (old:Int)) (.int .u64 (size:Int)) (.slice sa S.length sc) (.slice da D.length dc)) w1.heap.size (.slice sa S.length sc) S:=Qj (Cv.YP o1 hb3) fun g _ hB=>hc.block g (by show ¬_=_;omega)
  have z2:Qk (QT F w.heap.size (.int .i64 kd) (.int .i64 kk) (.int .u64 (old:Int)) (.int .u64 (size:Int)) (.slice sa S.length sc) (.slice da D.length dc)) w1.heap.size (.slice da D.length dc) D:=Qj (QC o2 hb3 (Lb _)) fun g _ hB=>hc.block g (by show ¬_=_;omega)
  obtain⟨a1,b1,c1,a2,b2,c2,e1,e2,r⟩:=Qgj HW.out z1 z2;injection e1 with g1 _ g3
  injection e2 with g4 _ g6
  subst g1 g3 g4 g6;exact⟨b1,b2,r⟩
 unfold QT at hp hc hr;have HB:=Qc (And.intro hp (And.intro hc (And.intro xb hr)));clear hp hc xb x6 hb2 hb3 h7 hr HO
 repeat go_step
 obtain⟨hp,hc,xb,sb,db,hr⟩:=HB.out;obtain⟨s0,s1,s2,s3,s4,s5⟩:=hp.cells;refine bodyPost_ret (v := .tuple #[.agg #[.int .i64 kd,.int .i64 kk,.int .u64 (old:Int),.int .u64 (size:Int),.slice sa S.length sc,.slice da D.length dc],.int .i64 0]) (by simp[results,Tryz.results27,go_sem,s0,s1,s2,s3,s4,s5]) rfl ⟨sa,sb,sc,da,db,dc,rfl,hr,xb.trans (hc.below (by rintro b rfl;omega))⟩
def cK(l:List (Nat×BA)):List Value:=l.flatMap fun c=>[.int .u64 (c.1:Int),.string c.2]
theorem Qka(c:Nat×BA)(l:List (Nat×BA)):cK (c::l) = .int .u64 (c.1:Int) :: .string c.2::cK l:=rfl
abbrev noC:Nat×BA:=(0,ByteArray.empty)
theorem Qne(l:List (Nat×BA)) : ∀j,j<l.length->(cK l)[j*2]? = some (.int .u64 ((l.getD j noC).1:Int))∧(cK l)[j*2+1]? = some (.string (l.getD j noC).2):=by
 induction l with
 | nil=>intro j hj;exact absurd hj (by simp)
 | cons c l ih =>
  intro j hj
  cases j with
  | zero=>exact⟨rfl,rfl⟩
  | succ j =>
   have:=ih j (by simpa using hj)
   rw[Qka,show(j+1)*2=j*2+1+1 by omega,Nt,Nt,Nt,Nt,Nz]
   exact this
structure RdK(w:World)(ao:OA)(b off n:Nat)(l:List (Nat×BA)):Prop where
 hl:l.length=n
 ptr:0<n->ao=some ⟨b,off,none⟩
 rng:w.rangeAt b off (cK l)
 sz : ∀c∈l,c.2.size<=9223372036854775807
theorem RdK.at{w:World}{ao:OA}{b off n:Nat}{l:List (Nat×BA)}(h:RdK w ao b off n l){j:Nat}(hj:j<n):w.cell? ⟨b,off+j*2,none⟩=some (.int .u64 ((l.getD j noC).1:Int))∧w.cell? ⟨b,off+j*2+1,none⟩=some (.string (l.getD j noC).2):=by
 have:=Qne l j (by rw[h.hl];exact hj)
 exact⟨h.rng _ _ this.1,by rw[If];exact h.rng _ _ this.2⟩
theorem RdK.lt{w:World}{ao:OA}{b off n:Nat}{l:List (Nat×BA)}(h:RdK w ao b off n l)(h0:0<n):b<w.heap.size:=Lh w _ (h.at h0).1
theorem RdK.next{w W:World}{ao:OA}{b off n:Nat}{l:List (Nat×BA)}(h:RdK w ao b off n l)(hb:Zb w W):RdK W ao b off n l:=by
 refine⟨h.hl,h.ptr,?_,h.sz⟩
 by_cases h0:0<n
 ·exact Ql hb (h.lt h0) h.rng
 ·have:l=[]:=LG.1 (by rw[h.hl];omega)
  rw[this];intro j v hv;cases hv
theorem QkY(w:World)(ao:OA):RdK w ao 0 0 0 []:=⟨rfl,fun h=>absurd h (NB 0),(fun j v h=>by cases h),(fun c h=>by cases h)⟩
theorem QkZ(w:World)(i:Nat)(s:BA)(hs:s.size<=9223372036854775807):RdK (w.alloc (.cells #[.int .u64 (i:Int),.string s] 38)) (some ⟨w.heap.size,0,none⟩) w.heap.size 0 1 [(i,s)] :=
 ⟨rfl,fun _=>rfl,Qv w [.int .u64 (i:Int),.string s] 38,fun c hc=>by rw[Id.1 hc];exact hs⟩
abbrev ixs(l:List (Nat×BA)):List Nat:=l.map Prod.fst
abbrev vls(l:List (Nat×BA)):LB:=l.map Prod.snd
theorem Qds(l:List (Nat×BA))(j:Nat):(ixs l).getD j 0=(l.getD j noC).1:=by
 rw[La,La,Nn]
 cases l[j]? <;> rfl
theorem Qmu{S:List Nat}{l:List (Nat×BA)}(h:S.length=l.length)(he : ∀j,j<S.length->S.getD j 0=(l.getD j noC).1):S=ixs l:=by
 refine II (by rw[h,Ln]) fun j h1 h2 => ?_
 have:=he j h1;rw[<-Qds,La,La,Lc h1,Lc h2] at this;exact this
theorem QgL(w:World)(sa:OA)(sb so sc:Nat)(S:List Nat)(hs:RdU w sa sb so S.length S)(hm:S.length<=17592186044416)(ca:OA)(cb co cn cc:Nat)(l:List (Nat×BA))(hc:RdK w ca cb co cn l)(r:Bool)(hr:decide (S=ixs l)=r) :
  Zr 62 #[.slice sa S.length sc,.slice ca cn cc] w (.bool r):=by
 have hcl:=hc.hl
 by_cases hl:S.length=cn
 ·have HR:Hid (∀W,Zb w W->RdU W sa sb so S.length S∧RdK W ca cb co cn l):=fun W hb=>⟨hs.next hb,hc.next hb⟩
  have HE:Hid (decide (S=ixs l)=r∧S.length=l.length):=⟨hr,by omega⟩
  have hm5:(S.length:Int)<=17592186044416:=by omega
  clear hs hc hr hm;obtain⟨n,hn⟩:=Ze S.length;rw[hn] at hl hm5 HR ⊢;have HN:=Qc hn;clear hn hcl;subst hl
  go_enter Tryz.func62,Tryz.ntmps62;go_wp2
  go_loopg [14] n (fun g i wr => ∃k:Nat,k<=n∧g=n - k∧i = .int .i64 (k:Int)∧(∀j,j<k->S.getD j 0=(l.getD j noC).1)∧Zb w wr)
  case atStart =>
   go_light;exact⟨0,Lf _,rfl,rfl,fun j hj=>absurd hj (NC j),Below.refl _ _⟩
  case round =>
   obtain⟨k,hk,rfl,rfl,he,hb⟩:=hrel;have hk0:(0:Int)<=(k:Int):=Le _
   by_cases hlt:k<n
   ·obtain⟨r1,r2⟩:=HR.out wr hb;obtain rfl:=r1.ptr (by omega)
    obtain rfl:=r2.ptr (by omega)
    have c1:=r1.at hlt;have c2:=(r2.at hlt).1;have hz:(k:Int)<(n:Int):=by omega
    obtain⟨x,hx⟩:=Ze (S.getD k 0);obtain⟨y,hy⟩:=Ze ((l.getD k noC).1);rw[hx] at c1;rw[hy] at c2;have HX:Hid (S.getD k 0=x∧(l.getD k noC).1=y):=⟨hx,hy⟩;have H0:Hid ((∀j,j<k->S.getD j 0=(l.getD j noC).1)∧Zb w wr):=⟨he,hb⟩;clear hx hy r1 r2 he hb
    by_cases hxy:y=x
    ·subst hxy;go_wp2
     go_roundg (n - (k+1))
     case rel =>
      go_light;refine⟨k+1,by omega,rfl,by go_num,fun j hj => ?_,H0.out.2⟩
      by_cases hjk:j=k
      ·subst hjk;rw[HX.out.1,HX.out.2]
      ·exact H0.out.1 j (by omega)
     case measure=>go_light;omega
    ·have hxz : ¬(y:Int)=(x:Int):=by omega
     have hxb:((y:Int) == (x:Int))=false:=by simpa using hxz
     have HF:Hid (false=r):=by
      rw[<-HE.out.1];refine(decide_eq_false fun he=>hxy ?_).symm
      have:=congrArg (fun t=>List.getD t k 0) he
      simp only[Qds] at this;rw[HX.out.1,HX.out.2] at this;exact this.symm
     go_wp2
     go_ret
     obtain rfl:=HF.out;exact⟨rfl,H0.out.2⟩
   ·have hz : ¬(k:Int)<(n:Int):=by omega
    have HF:Hid (true=r):=by
     rw[<-HE.out.1];exact(decide_eq_true (Qmu HE.out.2 fun j hj=>he j (by have:=HN.out;omega))).symm
    go_wp2
    go_ret
    obtain rfl:=HF.out;exact⟨rfl,hb⟩
 ·have HF:false=r:=by
   rw[<-hr];exact(decide_eq_false fun he=>hl (by rw[he,Ln,hcl])).symm
  subst HF;have hz : ¬(S.length:Int)=(cn:Int):=by omega
  have hzb:((S.length:Int) == (cn:Int))=false:=by simpa using hz
  clear hs hc hr hm
  go_enter Tryz.func62,Tryz.ntmps62;go_wp2
  go_ret
  exact⟨rfl,Below.refl _ _⟩
end Go.Proofs.YtdocjikpcbmcgaaGreatDoor
