/- Own work. -/
import Derived.Test.YtoblgjledefdbaaGreatDoorQm39
set_option maxRecDepth 100000
set_option maxHeartbeats 1000000
namespace Go.Proofs.YtoblgjledefdbaaGreatDoor
open Go.RowKit
attribute [local go_sem ↓] Go.wp_at_zero Go.wp_at_succ
open Go.Proofs.Tryz
def l8(v:S8):List Int:=[v.a,v.b,v.c,v.d,v.e,v.f,v.g,v.h]
def addL(s v:S8):Nat->List Int
 | 0=>l8 v
 | k+1=>(addL s v k).set k (IntKind.u32.wrap ((l8 v).getD k 0+(l8 s).getD k 0))
theorem QhF(s v:S8)(k j:Nat)(h:k<=j):(addL s v k).getD j 0=(l8 v).getD j 0:=by
 induction k with
 | zero=>rfl
 | succ k ih=>rw[addL,Ld,If (by omega),<-Ld,ih (by omega)]
theorem Qi9(s v:S8):addL s v 8=sumI s v:=by
 have:addL s v 8=[IntKind.u32.wrap (v.a+s.a),IntKind.u32.wrap (v.b+s.b),IntKind.u32.wrap (v.c+s.c),IntKind.u32.wrap (v.d+s.d),IntKind.u32.wrap (v.e+s.e),IntKind.u32.wrap (v.f+s.f),IntKind.u32.wrap (v.g+s.g),IntKind.u32.wrap (v.h+s.h)]:=rfl;rw[this,sumI];simp only[Int.add_comm]
theorem Qo9(a b c e f g h r x:Int):IntKind.u32.wrap (oneI e f g h r x+twoI a b c) =
  (h+bits .xor .u32 (bits .xor .u32 (Us e 6) (Us e 11)) (Us e 25)+bits .xor .u32 (bits .and .u32 e f) (bits .and .u32 (bits .xor .u32 IntKind.u32.max e) g)+r+x+(bits .xor .u32 (bits .xor .u32 (Us a 2) (Us a 13)) (Us a 22)+bits .xor .u32 (bits .xor .u32 (bits .and .u32 a b) (bits .and .u32 a c)) (bits .and .u32 b c))) % 4294967296:=by
 simp only[oneI,twoI,IntKind.wrap_u32'];omega
theorem Qpa(d e f g h r x:Int):IntKind.u32.wrap (d+oneI e f g h r x) =
  (d+(h+bits .xor .u32 (bits .xor .u32 (Us e 6) (Us e 11)) (Us e 25)+bits .xor .u32 (bits .and .u32 e f) (bits .and .u32 (bits .xor .u32 IntKind.u32.max e) g)+r+x)) % 4294967296:=by
 simp only[oneI,IntKind.wrap_u32'];omega
structure Mx(w wr:World)(st ws rs vl:List Int)(N V:Nat):Prop where
 vlen:vl.length=8
 below:Below w.heap.size w wr
 st:wr.rangeAt w.heap.size 0 (cW st)
 res:wr.there (w.heap.size+1) 0 8
 ws:wr.rangeAt N 0 (cW ws)
 rs:wr.rangeAt 1 0 (cW rs)
 v:wr.rangeAt V 0 (cW vl)
 vt:wr.there V 0 8
 hN:w.heap.size+2<=N
 hV:N<V
 h2:1<w.heap.size
theorem Mx.same{w X Y:World}{st ws rs vl:List Int}{N V:Nat}(h:Mx w X st ws rs vl N V)(e1:Y.heap=X.heap)(e2:Y.os=X.os)(e3:Y.tape=X.tape)(e4:Y.output=X.output):Mx w Y st ws rs vl N V:=by
 have hc : ∀a,Y.cell? a=X.cell? a:=fun a=>LD (w:=X) (by rw[e1])
 have hf : ∀a,Y.frozen? a=X.frozen? a:=fun a=>NN (w:=X) (by rw[e1])
 exact⟨h.vlen,⟨e2.trans h.below.os,e3.trans h.below.tape,e4.trans h.below.output,by rw[e1];exact h.below.size,fun k hk=>by rw[e1];exact h.below.block k hk⟩,
  fun j v hv=>by rw[hc];exact h.st j v hv,fun j hj=>by rw[hc,hf];exact h.res j hj,fun j v hv=>by rw[hc];exact h.ws j v hv,fun j v hv=>by rw[hc];exact h.rs j v hv,fun j v hv=>by rw[hc];exact h.v j v hv,fun j hj=>by rw[hc,hf];exact h.vt j hj,h.hN,h.hV,h.h2⟩
theorem Mx.set{w wr:World}{st ws rs vl:List Int}{N V:Nat}(h:Mx w wr st ws rs vl N V)(i:Nat)(x:Int):Mx w (wr.setCell ⟨V,i,none⟩ (.int .u32 x)) st ws rs (vl.set i x) N V:=by
 have hN:=h.hN;have hV:=h.hV;have h2:=h.h2;refine⟨by rw[Is];exact h.vlen,h.below.setCell (by show w.heap.size<=V;omega) _,Ua h.st (by show V≠_;omega) _,QK h.res _ _,Ua h.ws (by show V≠_;omega) _,Ua h.rs (by show V≠_;omega) _,?_,QK h.vt _ _,hN,hV,h2⟩
 have:=YG h.v i (.int .u32 x)
 rwa [Lm,QfC] at this
structure M1(w W:World)(st ws rs:List Int)(N:Nat):Prop where
 below:Below w.heap.size w W
 st:W.rangeAt w.heap.size 0 (cW st)
 res:W.there (w.heap.size+1) 0 8
 ws:W.rangeAt N 0 (cW ws)
 rs:W.rangeAt 1 0 (cW rs)
 hN:w.heap.size+2<=N
 hV:N<W.heap.size
 h2:1<w.heap.size
theorem M1.start{w w':World}{st ws rs:List Int}{t1 t2 t3:TypeId}{z:Array Value}(hz:z.size=8){z2:Array Value}(hz2:z2.size=64)(hwl:ws.length=64)(hrl:rs.length=64)
  (hr:w.rangeAt 1 0 (cW rs))
  (hb:Below ((w.alloc (.cells (cW st).toArray t1)).alloc (.cells z t2)).heap.size ((w.alloc (.cells (cW st).toArray t1)).alloc (.cells z t2)) w') :
  M1 w ((w'.alloc (.cells z2 t3)).setCells w'.heap.size 0 (cW ws)) st ws rs w'.heap.size:=by
 have xB:1<w.heap.size:=QE hr (by intro h;have:=Lw List.length h;simp[Qo,hrl] at this)
 have hN:w.heap.size+2<=w'.heap.size:=by have:=hb.size;simp at this;omega
 have xA:Below w.heap.size w w':=(((Lb _ _).alloc (La _) _).alloc (by simp) _).trans (hb.mono (by simp;omega))
 have h1:w'.rangeAt w.heap.size 0 (cW st):=Qn hb (by simp;omega) (World.rangeAt_alloc (Qq _ _ _) _)
 have h2:w'.there (w.heap.size+1) 0 8:=by
  have:=Qm (w.alloc (.cells (cW st).toArray t1)) z t2 8 (by omega)
  simp only[World.size_alloc] at this;exact QT hb (by simp) this
 have h3:w'.rangeAt 1 0 (cW rs):=Qn xA xB hr;have hw:((w'.alloc (.cells z2 t3)).setCells w'.heap.size 0 (cW ws)).rangeAt w'.heap.size 0 (cW ws):=World.rangeAt_setCells_same _ _ _ _ (Qm _ _ _ _ (by rw[Qo,hwl,hz2];exact La _))
 refine⟨Qr (xA.alloc (by omega) _) (by omega) _ _,?_,?_,hw,?_,hN,?_,xB⟩
 ·exact World.rangeAt_setCells_apart (World.rangeAt_alloc h1 _) _ _ _ (Or.inl (by omega))
 ·exact World.there_setCells (World.there_alloc h2 _) _ _ _
 ·exact World.rangeAt_setCells_apart (World.rangeAt_alloc h3 _) _ _ _ (Or.inl (by omega))
 ·exact QE hw (by intro h;have:=Lw List.length h;simp[Qo,hwl] at this)
theorem Mx.start{w W:World}{st ws rs:List Int}{N:Nat}(h:M1 w W st ws rs N)(hst:st.length=8)(t:TypeId):Mx w (W.alloc (.cells (cW st).toArray t)) st ws rs st N W.heap.size :=
 ⟨hst,h.below.alloc h.below.size _,World.rangeAt_alloc h.st _,World.there_alloc h.res _,World.rangeAt_alloc h.ws _,World.rangeAt_alloc h.rs _,Qq _ _ _,Qm _ _ _ _ (by simp[Qo,hst]),h.hN,h.hV,h.h2⟩
theorem Qij(st:List Int)(hst:st.length=8)(b:BA)(hb:b.size=64)(w:World)(rs:List Int)(hrl:rs.length=64)(hr:w.rangeAt 1 0 (cW rs)) :
  Calls prog 282 #[.agg (cW st).toArray,.string b] w fun e w'=>e = .returned (.agg (cW (YM rs st (tB b))).toArray)∧Below w.heap.size w w':=by
 obtain⟨s0,s1,s2,s3,s4,s5,s6,s7,rfl⟩:=QbE hst;clear hst;obtain⟨ws,xE⟩ : ∃ws,ws=Q2 (tB b) 48:=⟨_,rfl⟩;have xK:ws.length=64:=by rw[xE,O6]
 have xA:=fun w=>QkG b hb w
 rw[QmZ (Qla b),<-xE] at xA;have HE:Hid (ws=Q2 (tB b) 48):=xE;clear xE;have xJ:(cW ws).toArray.size=64:=by simp[Qo,xK]
 have xG:(prog.info? 403).map (·.size)=some (cW ws).toArray.size:=by rw[xJ];exact QdY
 go_enter func282,ntmps282
 go_upto_region 2 with (first|(go_at_call 363;refine(xA _).mono ?_;rintro e w' ⟨rfl,xI⟩)|(refine wpList_store_mid rfl 403 _ _ rfl _ 0 (cW ws).toArray rfl rfl ?_ xG (all_oneCell_toArray (Up ws)) ?_;exact Qm _ _ _ _ (by rw[xJ];exact La 64)))
 go_simp
 have hM:M1 w ((w'.alloc (.cells #[.int .u32 0,.int .u32 0,.int .u32 0,.int .u32 0,.int .u32 0,.int .u32 0,.int .u32 0,.int .u32 0,.int .u32 0,.int .u32 0,.int .u32 0,.int .u32 0,.int .u32 0,.int .u32 0,.int .u32 0,.int .u32 0,.int .u32 0,.int .u32 0,.int .u32 0,.int .u32 0,.int .u32 0,.int .u32 0,.int .u32 0,.int .u32 0,.int .u32 0,.int .u32 0,.int .u32 0,.int .u32 0,.int .u32 0,.int .u32 0,.int .u32 0,.int .u32 0,.int .u32 0,.int .u32 0,.int .u32 0,.int .u32 0,.int .u32 0,.int .u32 0,.int .u32 0,.int .u32 0,.int .u32 0,.int .u32 0,.int .u32 0,.int .u32 0,.int .u32 0,.int .u32 0,.int .u32 0,.int .u32 0,.int .u32 0,.int .u32 0,.int .u32 0,.int .u32 0,.int .u32 0,.int .u32 0,.int .u32 0,.int .u32 0,.int .u32 0,.int .u32 0,.int .u32 0,.int .u32 0,.int .u32 0,.int .u32 0,.int .u32 0,.int .u32 0] 403)).setCells w'.heap.size 0 (cW ws)) [s0,s1,s2,s3,s4,s5,s6,s7] ws rs w'.heap.size:=M1.start (z2:=(cW (List.replicate 64 0)).toArray) (z:=(cW [0,0,0,0,0,0,0,0]).toArray) rfl rfl xK hrl hr xI;clear xI xA;generalize ((w'.alloc (.cells #[.int .u32 0,.int .u32 0,.int .u32 0,.int .u32 0,.int .u32 0,.int .u32 0,.int .u32 0,.int .u32 0,.int .u32 0,.int .u32 0,.int .u32 0,.int .u32 0,.int .u32 0,.int .u32 0,.int .u32 0,.int .u32 0,.int .u32 0,.int .u32 0,.int .u32 0,.int .u32 0,.int .u32 0,.int .u32 0,.int .u32 0,.int .u32 0,.int .u32 0,.int .u32 0,.int .u32 0,.int .u32 0,.int .u32 0,.int .u32 0,.int .u32 0,.int .u32 0,.int .u32 0,.int .u32 0,.int .u32 0,.int .u32 0,.int .u32 0,.int .u32 0,.int .u32 0,.int .u32 0,.int .u32 0,.int .u32 0,.int .u32 0,.int .u32 0,.int .u32 0,.int .u32 0,.int .u32 0,.int .u32 0,.int .u32 0,.int .u32 0,.int .u32 0,.int .u32 0,.int .u32 0,.int .u32 0,.int .u32 0,.int .u32 0,.int .u32 0,.int .u32 0,.int .u32 0,.int .u32 0,.int .u32 0,.int .u32 0,.int .u32 0,.int .u32 0] 403)).setCells w'.heap.size 0 (cW ws))=W2 at *;generalize w'.heap.size=N at *;clear w';have c0:W2.cell? ⟨w.heap.size,0,none⟩=some (.int .u32 s0):=Qc hM.st (i:=0) (by simp)
 have c1:W2.cell? ⟨w.heap.size,1,none⟩=some (.int .u32 s1):=Qc hM.st (i:=1) (by simp)
 have c2:W2.cell? ⟨w.heap.size,2,none⟩=some (.int .u32 s2):=Qc hM.st (i:=2) (by simp)
 have c3:W2.cell? ⟨w.heap.size,3,none⟩=some (.int .u32 s3):=Qc hM.st (i:=3) (by simp)
 have c4:W2.cell? ⟨w.heap.size,4,none⟩=some (.int .u32 s4):=Qc hM.st (i:=4) (by simp)
 have c5:W2.cell? ⟨w.heap.size,5,none⟩=some (.int .u32 s5):=Qc hM.st (i:=5) (by simp)
 have c6:W2.cell? ⟨w.heap.size,6,none⟩=some (.int .u32 s6):=Qc hM.st (i:=6) (by simp)
 have c7:W2.cell? ⟨w.heap.size,7,none⟩=some (.int .u32 s7):=Qc hM.st (i:=7) (by simp)
 have hX:Mx w (W2.alloc (.cells (cW [s0,s1,s2,s3,s4,s5,s6,s7]).toArray 346)) [s0,s1,s2,s3,s4,s5,s6,s7] ws rs [s0,s1,s2,s3,s4,s5,s6,s7] N W2.heap.size:=Mx.start hM rfl 346;replace hX:Mx w (W2.alloc (.cells #[.int .u32 s0,.int .u32 s1,.int .u32 s2,.int .u32 s3,.int .u32 s4,.int .u32 s5,.int .u32 s6,.int .u32 s7] 346)) [s0,s1,s2,s3,s4,s5,s6,s7] ws rs [s0,s1,s2,s3,s4,s5,s6,s7] N W2.heap.size:=hX;clear hM;go_wp2;clear c0 c1 c2 c3 c4 c5 c6 c7;generalize W2.alloc (.cells #[.int .u32 s0,.int .u32 s1,.int .u32 s2,.int .u32 s3,.int .u32 s4,.int .u32 s5,.int .u32 s6,.int .u32 s7] 346)=W3 at *;generalize W2.heap.size=V at *;clear W2
 go_loopg [7] 64 (fun g i wr => ∃(k:Nat) (v:S8),k<=64∧g=64 - k∧i = .int .i64 k∧Hid (v=rnds (UG [s0,s1,s2,s3,s4,s5,s6,s7]) rs ws k)∧Mx w wr [s0,s1,s2,s3,s4,s5,s6,s7] ws rs (l8 v) N V)
 case atStart=>go_light;exact⟨0,UG [s0,s1,s2,s3,s4,s5,s6,s7],Ll _,rfl,rfl,rfl,hX⟩
 case round =>
  clear hX;obtain⟨k,v,hk,rfl,rfl,hv,hX⟩:=hrel
  by_cases hlt:k<64
  ·have xL:(0:Int)<=(k:Int):=Lf _;have xM:(k:Int)<64:=by omega
   obtain⟨a,b',c,d,e,f,g,gh⟩:=v;have cr:=Qc hX.rs (i:=k) (by omega)
   have cw:=Qc hX.ws (i:=k) (by omega)
   have c0:wr.cell? ⟨V,0,none⟩=some (.int .u32 a):=Qc hX.v (i:=0) (by simp[l8])
   have c1:wr.cell? ⟨V,1,none⟩=some (.int .u32 b'):=Qc hX.v (i:=1) (by simp[l8])
   have c2:wr.cell? ⟨V,2,none⟩=some (.int .u32 c):=Qc hX.v (i:=2) (by simp[l8])
   have c3:wr.cell? ⟨V,3,none⟩=some (.int .u32 d):=Qc hX.v (i:=3) (by simp[l8])
   have c4:wr.cell? ⟨V,4,none⟩=some (.int .u32 e):=Qc hX.v (i:=4) (by simp[l8])
   have c5:wr.cell? ⟨V,5,none⟩=some (.int .u32 f):=Qc hX.v (i:=5) (by simp[l8])
   have c6:wr.cell? ⟨V,6,none⟩=some (.int .u32 g):=Qc hX.v (i:=6) (by simp[l8])
   have c7:wr.cell? ⟨V,7,none⟩=some (.int .u32 gh):=Qc hX.v (i:=7) (by simp[l8])
   have f0:wr.frozen? ⟨V,0,none⟩=false:=by have:=(hX.vt 0 (by decide)).2;rwa [Lm] at this
   have f1:wr.frozen? ⟨V,1,none⟩=false:=by have:=(hX.vt 1 (by decide)).2;rwa [Lm] at this
   have f2:wr.frozen? ⟨V,2,none⟩=false:=by have:=(hX.vt 2 (by decide)).2;rwa [Lm] at this
   have f3:wr.frozen? ⟨V,3,none⟩=false:=by have:=(hX.vt 3 (by decide)).2;rwa [Lm] at this
   have f4:wr.frozen? ⟨V,4,none⟩=false:=by have:=(hX.vt 4 (by decide)).2;rwa [Lm] at this
   have f5:wr.frozen? ⟨V,5,none⟩=false:=by have:=(hX.vt 5 (by decide)).2;rwa [Lm] at this
   have f6:wr.frozen? ⟨V,6,none⟩=false:=by have:=(hX.vt 6 (by decide)).2;rwa [Lm] at this
   have f7:wr.frozen? ⟨V,7,none⟩=false:=by have:=(hX.vt 7 (by decide)).2;rwa [Lm] at this
   have HX:Hid (∀x0 x1 x2 x3 x4 x5 x6 x7,Mx w ((((((((wr.setCell ⟨V,0,none⟩ (.int .u32 x0)).setCell ⟨V,1,none⟩ (.int .u32 x1)).setCell ⟨V,2,none⟩ (.int .u32 x2)).setCell ⟨V,3,none⟩ (.int .u32 x3)).setCell ⟨V,4,none⟩ (.int .u32 x4)).setCell ⟨V,5,none⟩ (.int .u32 x5)).setCell ⟨V,6,none⟩ (.int .u32 x6)).setCell ⟨V,7,none⟩ (.int .u32 x7)) [s0,s1,s2,s3,s4,s5,s6,s7] ws rs [x0,x1,x2,x3,x4,x5,x6,x7] N V):=fun x0 x1 x2 x3 x4 x5 x6 x7=>((((((((hX.set 0 x0).set 1 x1).set 2 x2).set 3 x3).set 4 x4).set 5 x5).set 6 x6).set 7 x7)
   have HV:Hid (∀v',v'=S8.rnd ⟨a,b',c,d,e,f,g,gh⟩ (rs.getD k 0) (ws.getD k 0)->v'=rnds (UG [s0,s1,s2,s3,s4,s5,s6,s7]) rs ws (k+1)):=fun v' h=>by
    rw[h,show S8.mk a b' c d e f g gh=_ from hv];rfl
   clear hX hv;generalize rs.getD k 0=r at *;generalize ws.getD k 0=x at *;go_wp2
   go_region_held3 (fun w'=>w'.cell? ⟨1,k,none⟩=some (.int .u32 r)∧w'.cell? ⟨N,k,none⟩=some (.int .u32 x)∧w'.cell? ⟨V,4,none⟩=some (.int .u32 e)∧w'.cell? ⟨V,5,none⟩=some (.int .u32 f)∧w'.cell? ⟨V,6,none⟩=some (.int .u32 g)∧w'.cell? ⟨V,7,none⟩=some (.int .u32 gh)) (first|assumption|(refine⟨?_,?_,?_,?_,?_,?_⟩ <;> assumption)) (first|(go_at_call 364;refine(Qb8 _ _ _ (by decide) (by decide)).mono ?_;rintro e w' ⟨rfl,q,rfl⟩))
   go_wp2
   go_region_held3 (fun w'=>w'.cell? ⟨V,0,none⟩=some (.int .u32 a)∧w'.cell? ⟨V,1,none⟩=some (.int .u32 b')∧w'.cell? ⟨V,2,none⟩=some (.int .u32 c)) (first|assumption|(refine⟨?_,?_,?_⟩ <;> assumption)) (first|(go_at_call 364;refine(Qb8 _ _ _ (by decide) (by decide)).mono ?_;rintro e w' ⟨rfl,q,rfl⟩))
   go_wp2
   go_roundg (64 - (k+1))
   case rel =>
    go_light;refine⟨k+1,S8.rnd ⟨a,b',c,d,e,f,g,gh⟩ r x,by omega,rfl,by go_num,HV.out (S8.rnd ⟨a,b',c,d,e,f,g,gh⟩ r x) rfl,?_⟩
    simp only[l8,S8.rnd,Qo9,Qpa];refine Mx.same (HX.out _ _ _ _ _ _ _ _) ?_ ?_ ?_ ?_
    all_goals rfl
   case measure=>go_light;omega
  ·obtain rfl:k=64:=by omega
   have xH:Hid (YM rs [s0,s1,s2,s3,s4,s5,s6,s7] (tB b)=sumI (UG [s0,s1,s2,s3,s4,s5,s6,s7]) v):=by
    show _=_
    rw[show v=_ from hv,show ws=_ from HE];rfl
   clear hk hlt hv;go_wp2
   go_loopg [10] 8 (fun g i wr => ∃k:Nat,k<=8∧g=8 - k∧i = .int .i64 k∧Mx w wr [s0,s1,s2,s3,s4,s5,s6,s7] ws rs (addL (UG [s0,s1,s2,s3,s4,s5,s6,s7]) v k) N V)
   case atStart=>go_light;exact⟨0,Ll _,rfl,rfl,hX⟩
   case round =>
    clear hX;obtain⟨k,hk,rfl,rfl,hX⟩:=hrel
    by_cases hlt:k<8
    ·have xL:(0:Int)<=(k:Int):=Lf _;have xM:(k:Int)<8:=by omega
     have cv:=Qc hX.v (i:=k) (by rw[hX.vlen];omega)
     rw[QhF _ _ _ _ (La _)] at cv;have cs:wr.cell? ⟨w.heap.size,k,none⟩=some (.int .u32 ((l8 (UG [s0,s1,s2,s3,s4,s5,s6,s7])).getD k 0)):=Qc hX.st (i:=k) hlt;have fv:wr.frozen? ⟨V,k,none⟩=false:=by have:=(hX.vt k hlt).2;rwa [Lm] at this
     have HF:Hid (∀x,Mx w (wr.setCell ⟨V,k,none⟩ (.int .u32 x)) [s0,s1,s2,s3,s4,s5,s6,s7] ws rs ((addL (UG [s0,s1,s2,s3,s4,s5,s6,s7]) v k).set k x) N V):=fun x=>hX.set k x
     have HV:Hid (addL (UG [s0,s1,s2,s3,s4,s5,s6,s7]) v (k+1)=(addL (UG [s0,s1,s2,s3,s4,s5,s6,s7]) v k).set k (IntKind.u32.wrap ((l8 v).getD k 0+(l8 (UG [s0,s1,s2,s3,s4,s5,s6,s7])).getD k 0))):=rfl;clear hX;generalize (l8 v).getD k 0=x at *;generalize (l8 (UG [s0,s1,s2,s3,s4,s5,s6,s7])).getD k 0=y at *;go_wp2
     go_region
     all_goals
      go_wp2
      go_roundg (8 - (k+1))
      case rel =>
       go_light;refine⟨k+1,by omega,rfl,by go_num,?_⟩
       rw[HV.out,IntKind.wrap_u32'];exact(HF.out _).same rfl rfl rfl rfl
      case measure=>go_light;omega
    ·obtain rfl:k=8:=by omega
     rw[Qi9] at hX;have xO:=hX.vlen;have xN:=hX.v;have xB:(prog.info? 346).map (·.size)=some (cW (sumI (UG [s0,s1,s2,s3,s4,s5,s6,s7]) v)).length:=Ut;have xC:(prog.info? 346).map (·.size)=some (cW (sumI (UG [s0,s1,s2,s3,s4,s5,s6,s7]) v)).toArray.size:=Ut;have xD:wr.there (w.heap.size+1) 0 (cW (sumI (UG [s0,s1,s2,s3,s4,s5,s6,s7]) v)).toArray.size:=hX.res;have xF:=hX.below;clear hX;generalize hE:sumI (UG [s0,s1,s2,s3,s4,s5,s6,s7]) v=F at *;have HF:Hid (YM rs [s0,s1,s2,s3,s4,s5,s6,s7] (tB b)=F):=xH;clear hE xH
     go_wp2_with (first|(refine wpList_load_mid rfl 346 _ rfl V 0 rfl (cW F) _ xN underlying346 rfl xB ?_)|(refine wpList_store_mid rfl 346 _ _ rfl (w.heap.size+1) 0 (cW F).toArray rfl rfl xD xC (all_oneCell_toArray (Up F)) ?_))
     refine Lv (v := .agg (cW F).toArray) ?_ rfl ⟨by rw[HF.out],?_⟩
     ·refine QH results282 _ _ (w.heap.size+1) 0 (cW F) (.array 8 110) ?_ ?_ underlying346 rfl xB
      ·rfl
      ·go_light
       simpa using World.rangeAt_setCells_same _ _ _ _ (by simpa using xD)
     ·go_light;exact Qr xF (by omega) _ _
def tl(n:Int):Nat->List Int
 | 0=>[]
 | j+1=>(n / 256^j % 256)::tl n j
theorem Jb(n:Int)(j:Nat):(tl n j).length=j:=by
 induction j with
 | zero=>rfl
 | succ j ih=>simp[tl,ih]
theorem Qae(n:Int)(j:Nat):Bytes (tl n j):=by
 induction j with
 | zero=>intro x hx;cases hx
 | succ j ih =>
  intro x hx
  rcases List.mem_cons.1 hx with rfl|hx
  ·omega
  ·exact ih x hx
structure Bg(w wr:World)(l:List Int)(K:Nat):Prop where
 len:l.length=K
 below:Below w.heap.size w wr
 out:wr.rangeAt w.heap.size 0 (cB l)
 outt:wr.there w.heap.size 0 K
theorem Bg.set{w wr:World}{l:List Int}{K:Nat}(h:Bg w wr l K)(m:Nat)(v:Int):Bg w (wr.setCell ⟨w.heap.size,m,none⟩ (.int .u8 v)) (l.set m v) K:=by
 refine⟨by rw[Is];exact h.len,h.below.setCell (La _) _,?_,QK h.outt _ _⟩
 have:=YG h.out m (.int .u8 v)
 rwa [Lm,QfB] at this
theorem QmO(K j:Nat)(n v:Int)(h:j<K):(List.replicate (K - j) 0++tl n j).set (K - 1 - j) v=List.replicate (K - (j+1)) 0++v::tl n j:=by
 obtain⟨m,rfl⟩ : ∃m,K=j+1+m:=⟨K - (j+1),by omega⟩
 rw[show j+1+m - j=m+1 by omega,show j+1+m - 1 - j=m by omega,show j+1+m - (j+1)=m by omega,List.replicate_succ',Lq,L4 _ _ (by simp)]
 simp
theorem QhW(w:World)(b K:Nat)(l:List Int)(hl:l.length=K)(h:w.rangeAt b 0 (cB l)):(convert 127 9 (.slice (some ⟨b,0,none⟩) K K)).run prog w = .ok (.string (QU l)) w:=Qbg w b l K hl h
theorem QgK(n:Int)(h0:0<=n)(h64:n<18446744073709551616)(K:Nat)(hK:K<=8)
  (hmk : ∀u:World,(Instr.makeSlice 127 (.int .i64 (K:Int)) (.int .i64 (K:Int))).run prog u = .ok (.slice (some ⟨u.heap.size,0,none⟩) K K) (u.alloc (.cells (cB (List.replicate K 0)).toArray 5))) (w:World) :
  Calls prog 281 #[.int .u64 n,.int .i64 (K:Int)] w fun e w'=>e = .returned (.string (QU (tl n K)))∧Below w.heap.size w w':=by
 have xB:Bg w (w.alloc (.cells (cB (List.replicate K 0)).toArray 5)) (List.replicate K 0) K :=
  ⟨by simp,(Lb _ _).alloc (La _) _,Qq _ _ _,Qm _ _ _ _ (by simp[QA])⟩
 have k0:(0:Int)<=(K:Int):=Lf _;have k8:(K:Int)<=8:=by omega
 go_enter func281,ntmps281;go_wp2;generalize w.alloc (.cells (cB (List.replicate K 0)).toArray 5)=w1 at *;clear hmk
 go_loopg [0,6] K (fun g x i wr => ∃j:Nat,j<=K∧g=K - j∧x = .int .u64 (n / 256^j)∧i = .int .i64 ((K:Int) - 1 - (j:Int))∧Bg w wr (List.replicate (K - j) 0++tl n j) K)
 case atStart =>
  go_light;refine⟨0,Ll _,rfl,?_,?_,?_⟩
  ·simp
  ·simp
  ·simpa [tl] using xB
 case round =>
  clear xB;obtain⟨j,hj,rfl,rfl,rfl,hs⟩:=hrel;have xD:0<=n / 256^j:=Int.ediv_nonneg h0 (Int.pow_nonneg (by decide))
  have xE:n / 256^j<=n:=Int.ediv_le_self _ h0;have xF:n / 256^j<18446744073709551616:=by omega
  by_cases hlt:j<K
  ·obtain⟨m,hm⟩ : ∃m:Nat,j+m+1=K:=⟨K - 1 - j,by omega⟩
   have em:(K:Int) - 1 - (j:Int)=(m:Int):=by omega
   rw[em];have m0:(0:Int)<=(m:Int):=Lf _;have mK:(m:Int)<(K:Int):=by omega
   have m8:(m:Int)<=8:=by omega
   have cm:=Yg hs.out (i:=m) (by rw[hs.len];omega)
   have fm:wr.frozen? ⟨w.heap.size,m,none⟩=false:=by have:=(hs.outt m (by omega)).2;rwa [Lm] at this
   have HF:Hid (Bg w (wr.setCell ⟨w.heap.size,m,none⟩ (.int .u8 (n / 256^j % 256))) (List.replicate (K - (j+1)) 0++tl n (j+1)) K):=by
    have:=hs.set m (n / 256^j % 256)
    rwa [show m=K - 1 - j by omega,QmO K j n _ hlt,<-show m=K - 1 - j by omega] at this
   have HD:Hid (n / 256^j / 256=n / 256^(j+1)):=by
    show _=_
    rw[Int.pow_succ,Int.ediv_ediv_of_nonneg (Int.pow_nonneg (by decide))]
   have HM:Hid (j+m+1=K):=hm;clear hs hm em;generalize n / 256^j=x at *;generalize (List.replicate (K - j) 0++tl n j).getD m 0=z at *;go_wp2
   go_roundg (K - (j+1))
   case rel =>
    go_light;refine⟨j+1,by omega,rfl,by rw[<-HD.out],?_,HF.out⟩
    have:=HM.out;go_num
   case measure=>go_light;omega
  ·obtain rfl:j=K:=by omega
   have em:(j:Int) - 1 - (j:Int) = -1:=by omega
   rw[em];have xA:=hs.out;rw[Il,List.replicate_zero,Nd] at xA;have xC:=QhW wr w.heap.size j (tl n j) (Jb _ _) xA;have HB:Hid (Below w.heap.size w wr):=hs.below;clear hs xA;go_wp2
   go_ret
   exact⟨rfl,HB.out⟩
theorem big8(n:Int)(h0:0<=n)(h64:n<18446744073709551616)(w:World) :
  Calls prog 281 #[.int .u64 n,.int .i64 8] w fun e w'=>e = .returned (.string (QU (tl n 8)))∧Below w.heap.size w w':=QgK n h0 h64 8 (by decide) (fun u=>by kernel_rfl) w
theorem big4(n:Int)(h0:0<=n)(h64:n<18446744073709551616)(w:World) :
  Calls prog 281 #[.int .u64 n,.int .i64 4] w fun e w'=>e = .returned (.string (QU (tl n 4)))∧Below w.heap.size w w':=QgK n h0 h64 4 (by decide) (fun u=>by kernel_rfl) w
theorem Qh6(l:List Int)(acc:BA):(l.foldl (fun r n=>r.push (UInt8.ofNat n.toNat)) acc).data.toList=acc.data.toList++l.map fun n=>UInt8.ofNat n.toNat:=by
 induction l generalizing acc with
 | nil=>simp
 | cons x r ih=>rw[Wa,ih];simp[ByteArray.push]
theorem UW(l:List Int):(QU l).data.toList=l.map fun n=>UInt8.ofNat n.toNat:=by
 rw[QU,Qh6];rfl
theorem JY{l:List Int}(h:Bytes l):tB (QU l)=l:=by
 rw[tB,UW,List.map_map]
 conv=>rhs;rw[<-List.map_id l]
 apply NA
 intro x hx;obtain⟨h0,h1⟩:=h x hx;obtain⟨n,rfl⟩:=NE h0;simp;omega
theorem Qng(s:BA):QU (tB s)=s:=by
 have:(QU (tB s)).data.toList=s.data.toList:=by
  rw[UW,tB,List.map_map]
  conv=>rhs;rw[<-List.map_id s.data.toList]
  apply NA
  intro x _;simp
 cases s with
 | mk d =>
  cases h:QU (tB ⟨d⟩) with
  | mk d' =>
   rw[h] at this;simp only at this;rw[Array.toList_inj.1 this]
def msg(t:List Int)(z:Nat):List Int:=(t++(128::List.replicate z 0))++tl (8*(t.length:Int)) 8
theorem QeA{l:List Int}(h:l.length=64)(b:Int):Ug l b 8=l.take 56++tl b 8:=by
 obtain⟨s0,s1,s2,s3,s4,s5,s6,s7,hd⟩:=QbE (st:=l.drop 56) (by simp[h])
 have e:l=l.take 56++[s0,s1,s2,s3,s4,s5,s6,s7]:=by rw[<-hd,Nj]
 have hA:(l.take 56).length=56:=by simp[h]
 generalize l.take 56=A at *;subst e;simp only[Ug,tl,IntKind.wrap_u8'];rw[L4 _ _ (by omega),L4 _ _ (by omega),L4 _ _ (by omega),L4 _ _ (by omega),L4 _ _ (by omega),L4 _ _ (by omega),L4 _ _ (by omega),L4 _ _ (by omega),hA]
 congr 1
theorem QiW(A:List Int)(h:A.length=56)(B:List Int):(A++B).take 56=A:=by
 rw[Lt (by omega),Lo (by omega)]
theorem Qml(rs t:List Int)(z:Nat)(hlt:t.length<1152921504606846976)(hz:(t.length+(z+1)+8) % 64=0)(hz2:z<64) :
  stN rs IV (msg t z) ((msg t z).length / 64)=QY rs (stN rs IV t (t.length / 64)) (pad (t.drop (64*(t.length / 64)))) t.length:=by
 have xJ:(msg t z).length=t.length+(z+1)+8:=by simp[msg,Jb];omega
 have xE:IntKind.u64.wrap ((t.length:Int)*8)=8*(t.length:Int):=by
  simp[IntKind.wrap,IntKind.bits,IntKind.signed];omega
 have xI:(t.drop (64*(t.length / 64))).length=t.length % 64:=by rw[Nb];omega
 have xG:(pad (t.drop (64*(t.length / 64)))).length=64:=Um (by omega)
 have xH:(pad (t.drop (64*(t.length / 64)))).take (t.length % 64)=t.drop (64*(t.length / 64)):=by
  rw[pad,Lt (by omega),Lo (by omega)]
 have xA : ∀q,q=t.length / 64->(msg t z).drop (64*q)=(t.drop (64*q)++(128::List.replicate z 0))++tl (8*(t.length:Int)) 8:=fun q hq=>by
  unfold msg;rw[LI (by simp;omega),LI (by omega)]
 have xC:stN rs IV (msg t z) (t.length / 64)=stN rs IV t (t.length / 64):=by
  unfold msg;rw[Lq,Oq _ _ _ _ _ (by omega)]
 unfold QY;rw[xE];have xB:Jh (pad (t.drop (64*(t.length / 64)))) (t.length % 64)=(t.drop (64*(t.length / 64))++[128])++List.replicate (64 - (t.length % 64+1)) 0:=by
  rw[Qdc xG (Ia _ (by decide)),xH]
 by_cases h55:55<t.length % 64
 ·rw[Lk h55];have hq:(msg t z).length / 64=t.length / 64+1+1:=by omega
  have xD:z=(64 - (t.length % 64+1))+56:=by omega
  rw[hq,stN,stN,xC,xA _ rfl,xB,QeA (by simp)]
  have e1:((t.drop (64*(t.length / 64))++(128::List.replicate z 0))++tl (8*(t.length:Int)) 8).take 64=(t.drop (64*(t.length / 64))++[128])++List.replicate (64 - (t.length % 64+1)) 0:=by
   rw[xD,<-NB];have:t.drop (64*(t.length / 64))++(128::(List.replicate (64 - (t.length % 64+1)) 0++List.replicate 56 0))++tl (8*(t.length:Int)) 8=((t.drop (64*(t.length / 64))++[128])++List.replicate (64 - (t.length % 64+1)) 0)++(List.replicate 56 0++tl (8*(t.length:Int)) 8):=by simp
   rw[this,Lt (by simp;omega),Lo (by simp;omega)]
  have e2:((msg t z).drop (64*(t.length / 64+1))).take 64=(List.replicate 64 (0:Int)).take 56++tl (8*(t.length:Int)) 8:=by
   have xF:(msg t z).drop (64*(t.length / 64+1))=((msg t z).drop (64*(t.length / 64))).drop 64:=by rw[IB];congr 1
   rw[xF,xA _ rfl,xD,<-NB];have:t.drop (64*(t.length / 64))++(128::(List.replicate (64 - (t.length % 64+1)) 0++List.replicate 56 0))++tl (8*(t.length:Int)) 8=((t.drop (64*(t.length / 64))++[128])++List.replicate (64 - (t.length % 64+1)) 0)++(List.replicate 56 0++tl (8*(t.length:Int)) 8):=by simp
   rw[this,LI (by simp;omega),LZ (by simp;omega),Nd,Lo (by simp[Jb])]
   simp
  rw[e1,e2]
 ·rw[Le h55];have hq:(msg t z).length / 64=t.length / 64+1:=by omega
  have xD:z=55 - t.length % 64:=by omega
  rw[hq,stN,xC,xA _ rfl,xB,QeA (by simp;omega)]
  congr 1
  rw[Lo (by simp[Jb];omega)]
  congr 1
  have:(t.drop (64*(t.length / 64))++[128])++List.replicate (64 - (t.length % 64+1)) 0=(t.drop (64*(t.length / 64))++(128::List.replicate z 0))++List.replicate 8 0:=by
   rw[show 64 - (t.length % 64+1)=z+8 by omega,<-NB];simp
  rw[this,QiW _ (by simp;omega)]
def outR(H:List Int):Nat->List Int
 | 0=>[]
 | k+1=>outR H k++tl (H.getD k 0) 4
theorem Qmz(H:List Int)(k:Nat):outR H k=UQ H k:=by
 induction k with
 | zero=>rfl
 | succ k ih =>
  rw[outR,UQ,ih];simp[tl,w4,IntKind.wrap_u8']
end Go.Proofs.YtoblgjledefdbaaGreatDoor
