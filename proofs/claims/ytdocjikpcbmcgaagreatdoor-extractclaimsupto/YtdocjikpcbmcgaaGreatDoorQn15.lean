/- Own work. -/
import Derived.Test.YtdocjikpcbmcgaaGreatDoorQn14
set_option maxRecDepth 100000
set_option maxHeartbeats 2000000
namespace Go.Proofs.YtdocjikpcbmcgaaGreatDoor
open Go.RowKit
attribute [local go_sem ↓] Go.wp_at_zero Go.wp_at_succ
open Go.Proofs.Tryz
def l8(v:S8):List Int:=[v.a,v.b,v.c,v.d,v.e,v.f,v.g,v.h]
def addL(s v:S8):Nat->List Int
 | 0=>l8 v
 | k+1=>(addL s v k).set k (IntKind.u32.wrap ((l8 v).getD k 0+(l8 s).getD k 0))
theorem Qhr(s v:S8)(k j:Nat)(h:k<=j):(addL s v k).getD j 0=(l8 v).getD j 0:=by
 induction k with
 | zero=>rfl
 | succ k ih=>rw[addL,La,Iu (by omega),<-La,ih (by omega)]
theorem QiP(s v:S8):addL s v 8=sumI s v:=by
 have:addL s v 8=[IntKind.u32.wrap (v.a+s.a),IntKind.u32.wrap (v.b+s.b),IntKind.u32.wrap (v.c+s.c),IntKind.u32.wrap (v.d+s.d),IntKind.u32.wrap (v.e+s.e),IntKind.u32.wrap (v.f+s.f),IntKind.u32.wrap (v.g+s.g),IntKind.u32.wrap (v.h+s.h)]:=rfl;rw[this,sumI];simp only[Int.add_comm]
theorem Qom(a b c e f g h r x:Int):IntKind.u32.wrap (oneI e f g h r x+twoI a b c) =
  (h+bits .xor .u32 (bits .xor .u32 (UL e 6) (UL e 11)) (UL e 25)+bits .xor .u32 (bits .and .u32 e f) (bits .and .u32 (bits .xor .u32 IntKind.u32.max e) g)+r+x+(bits .xor .u32 (bits .xor .u32 (UL a 2) (UL a 13)) (UL a 22)+bits .xor .u32 (bits .xor .u32 (bits .and .u32 a b) (bits .and .u32 a c)) (bits .and .u32 b c))) % 4294967296:=by
 simp only[oneI,twoI,IntKind.wrap_u32'];omega
theorem Qon(d e f g h r x:Int):IntKind.u32.wrap (d+oneI e f g h r x) =
  (d+(h+bits .xor .u32 (bits .xor .u32 (UL e 6) (UL e 11)) (UL e 25)+bits .xor .u32 (bits .and .u32 e f) (bits .and .u32 (bits .xor .u32 IntKind.u32.max e) g)+r+x)) % 4294967296:=by
 simp only[oneI,IntKind.wrap_u32'];omega
structure Mx(w wr:World)(st ws rs vl:List Int)(N V:Nat):Prop where
 vlen:vl.length=8
 below:Zb w wr
 st:wr.rangeAt w.heap.size 0 (cW st)
 res:wr.there (w.heap.size+1) 0 8
 ws:wr.rangeAt N 0 (cW ws)
 rs:wr.rangeAt 1 0 (cW rs)
 v:wr.rangeAt V 0 (cW vl)
 vt:wr.there V 0 8
 hN:w.heap.size+2<=N
 hV:N<V
 h2:1<w.heap.size
theorem Mx.same{w X Y:World}{st ws rs vl:List Int}{N V:Nat}(h:Mx w X st ws rs vl N V)(e1:Y.heap=X.heap)(e2:Y.os=X.os)(e3:Y.tape=X.tape)(e4:Y.output=X.output):Mx w Y st ws rs vl N V:=by
 have hc : ∀a,Y.cell? a=X.cell? a:=fun a=>LC (w:=X) (by rw[e1])
 have hf : ∀a,Y.frozen? a=X.frozen? a:=fun a=>IP (w:=X) (by rw[e1])
 exact⟨h.vlen,⟨e2.trans h.below.os,e3.trans h.below.tape,e4.trans h.below.output,by rw[e1];exact h.below.size,fun k hk=>by rw[e1];exact h.below.block k hk⟩,
  fun j v hv=>by rw[hc];exact h.st j v hv,fun j hj=>by rw[hc,hf];exact h.res j hj,fun j v hv=>by rw[hc];exact h.ws j v hv,fun j v hv=>by rw[hc];exact h.rs j v hv,fun j v hv=>by rw[hc];exact h.v j v hv,fun j hj=>by rw[hc,hf];exact h.vt j hj,h.hN,h.hV,h.h2⟩
theorem Mx.set{w wr:World}{st ws rs vl:List Int}{N V:Nat}(h:Mx w wr st ws rs vl N V)(i:Nat)(x:Int):Mx w (wr.setCell ⟨V,i,none⟩ (.int .u32 x)) st ws rs (vl.set i x) N V:=by
 have hN:=h.hN;have hV:=h.hV;have h2:=h.h2;refine⟨by rw[I0];exact h.vlen,h.below.setCell (by show w.heap.size<=V;omega) _,Un h.st (by show V≠_;omega) _,Yb h.res _ _,Un h.ws (by show V≠_;omega) _,Un h.rs (by show V≠_;omega) _,?_,Yb h.vt _ _,hN,hV,h2⟩
 have:=UB h.v i (.int .u32 x)
 rwa [Lr,QfG] at this
structure M1(w W:World)(st ws rs:List Int)(N:Nat):Prop where
 below:Zb w W
 st:W.rangeAt w.heap.size 0 (cW st)
 res:W.there (w.heap.size+1) 0 8
 ws:W.rangeAt N 0 (cW ws)
 rs:W.rangeAt 1 0 (cW rs)
 hN:w.heap.size+2<=N
 hV:N<W.heap.size
 h2:1<w.heap.size
theorem M1.start{w w':World}{st ws rs:List Int}{t1 t2 t3:TypeId}{z:Array Value}(hz:z.size=8){z2:Array Value}(hz2:z2.size=64)(hwl:ws.length=64)(hrl:rs.length=64)
  (hr:w.rangeAt 1 0 (cW rs))
  (hb:Below ((w.alloc (.cells (cW st).toArray t1)).alloc (.cells z t2)).heap.size ((w.alloc (.cells (cW st).toArray t1)).alloc (.cells z t2)) w') :
  M1 w ((w'.alloc (.cells z2 t3)).setCells w'.heap.size 0 (cW ws)) st ws rs w'.heap.size:=by
 have xB:1<w.heap.size:=QU hr (by intro h;have:=LU List.length h;simp[Qo,hrl] at this)
 have hN:w.heap.size+2<=w'.heap.size:=by have:=hb.size;simp at this;omega
 have xA:Zb w w':=(((Lb _ _).alloc (Ld _) _).alloc (by simp) _).trans (hb.mono (by simp;omega))
 have h1:w'.rangeAt w.heap.size 0 (cW st):=Ql hb (by simp;omega) (World.rangeAt_alloc (Qu _ _ _) _)
 have h2:w'.there (w.heap.size+1) 0 8:=by
  have:=Qz (w.alloc (.cells (cW st).toArray t1)) z t2 8 (by omega)
  simp only[World.size_alloc] at this;exact Ye hb (by simp) this
 have h3:w'.rangeAt 1 0 (cW rs):=Ql xA xB hr;have hw:((w'.alloc (.cells z2 t3)).setCells w'.heap.size 0 (cW ws)).rangeAt w'.heap.size 0 (cW ws):=World.rangeAt_setCells_same _ _ _ _ (Qz _ _ _ _ (by rw[Qo,hwl,hz2];exact Ld _))
 refine⟨Qs (xA.alloc (by omega) _) (by omega) _ _,?_,?_,hw,?_,hN,?_,xB⟩
 ·exact World.rangeAt_setCells_apart (World.rangeAt_alloc h1 _) _ _ _ (Or.inl (by omega))
 ·exact World.there_setCells (World.there_alloc h2 _) _ _ _
 ·exact World.rangeAt_setCells_apart (World.rangeAt_alloc h3 _) _ _ _ (Or.inl (by omega))
 ·exact QU hw (by intro h;have:=LU List.length h;simp[Qo,hwl] at this)
theorem Mx.start{w W:World}{st ws rs:List Int}{N:Nat}(h:M1 w W st ws rs N)(hst:st.length=8)(t:TypeId):Mx w (W.alloc (.cells (cW st).toArray t)) st ws rs st N W.heap.size :=
 ⟨hst,h.below.alloc h.below.size _,World.rangeAt_alloc h.st _,World.there_alloc h.res _,World.rangeAt_alloc h.ws _,World.rangeAt_alloc h.rs _,Qu _ _ _,Qz _ _ _ _ (by simp[Qo,hst]),h.hN,h.hV,h.h2⟩
theorem QhX(st:List Int)(hst:st.length=8)(b:BA)(hb:b.size=64)(w:World)(rs:List Int)(hrl:rs.length=64)(hr:w.rangeAt 1 0 (cW rs)) :
  Zr 66 #[.agg (cW st).toArray,.string b] w (.agg (cW (YT rs st (tB b))).toArray):=by
 obtain⟨s0,s1,s2,s3,s4,s5,s6,s7,rfl⟩:=Qb3 hst;clear hst;obtain⟨ws,xE⟩ : ∃ws,ws=Yd (tB b) 48:=⟨_,rfl⟩;have xK:ws.length=64:=by rw[xE,Qaa]
 have xA:=fun w=>Qkb b hb w
 rw[Qmc (QkA b),<-xE] at xA;have HE:Hid (ws=Yd (tB b) 48):=xE;clear xE;have xJ:(cW ws).toArray.size=64:=by simp[Qo,xK]
 have xG:(prog.info? 167).map (·.size)=some (cW ws).toArray.size:=by rw[xJ];exact Qeg
 go_enter func66,ntmps66
 go_upto_region 2 with (first|(go_at_call 123;refine(xA _).mono ?_;rintro e w' ⟨rfl,xI⟩)|(refine wpList_store_mid rfl 167 _ _ rfl _ 0 (cW ws).toArray rfl rfl ?_ xG (all_oneCell_toArray (UC ws)) ?_;exact Qz _ _ _ _ (by rw[xJ];exact Ld 64)))
 go_simp
 have hM:M1 w ((w'.alloc (.cells #[.int .u32 0,.int .u32 0,.int .u32 0,.int .u32 0,.int .u32 0,.int .u32 0,.int .u32 0,.int .u32 0,.int .u32 0,.int .u32 0,.int .u32 0,.int .u32 0,.int .u32 0,.int .u32 0,.int .u32 0,.int .u32 0,.int .u32 0,.int .u32 0,.int .u32 0,.int .u32 0,.int .u32 0,.int .u32 0,.int .u32 0,.int .u32 0,.int .u32 0,.int .u32 0,.int .u32 0,.int .u32 0,.int .u32 0,.int .u32 0,.int .u32 0,.int .u32 0,.int .u32 0,.int .u32 0,.int .u32 0,.int .u32 0,.int .u32 0,.int .u32 0,.int .u32 0,.int .u32 0,.int .u32 0,.int .u32 0,.int .u32 0,.int .u32 0,.int .u32 0,.int .u32 0,.int .u32 0,.int .u32 0,.int .u32 0,.int .u32 0,.int .u32 0,.int .u32 0,.int .u32 0,.int .u32 0,.int .u32 0,.int .u32 0,.int .u32 0,.int .u32 0,.int .u32 0,.int .u32 0,.int .u32 0,.int .u32 0,.int .u32 0,.int .u32 0] 167)).setCells w'.heap.size 0 (cW ws)) [s0,s1,s2,s3,s4,s5,s6,s7] ws rs w'.heap.size:=M1.start (z2:=(cW (List.replicate 64 0)).toArray) (z:=(cW [0,0,0,0,0,0,0,0]).toArray) rfl rfl xK hrl hr xI;clear xI xA;generalize ((w'.alloc (.cells #[.int .u32 0,.int .u32 0,.int .u32 0,.int .u32 0,.int .u32 0,.int .u32 0,.int .u32 0,.int .u32 0,.int .u32 0,.int .u32 0,.int .u32 0,.int .u32 0,.int .u32 0,.int .u32 0,.int .u32 0,.int .u32 0,.int .u32 0,.int .u32 0,.int .u32 0,.int .u32 0,.int .u32 0,.int .u32 0,.int .u32 0,.int .u32 0,.int .u32 0,.int .u32 0,.int .u32 0,.int .u32 0,.int .u32 0,.int .u32 0,.int .u32 0,.int .u32 0,.int .u32 0,.int .u32 0,.int .u32 0,.int .u32 0,.int .u32 0,.int .u32 0,.int .u32 0,.int .u32 0,.int .u32 0,.int .u32 0,.int .u32 0,.int .u32 0,.int .u32 0,.int .u32 0,.int .u32 0,.int .u32 0,.int .u32 0,.int .u32 0,.int .u32 0,.int .u32 0,.int .u32 0,.int .u32 0,.int .u32 0,.int .u32 0,.int .u32 0,.int .u32 0,.int .u32 0,.int .u32 0,.int .u32 0,.int .u32 0,.int .u32 0,.int .u32 0] 167)).setCells w'.heap.size 0 (cW ws))=W2 at *;generalize w'.heap.size=N at *;clear w';have c0:W2.cell? ⟨w.heap.size,0,none⟩=some (.int .u32 s0):=Qf hM.st (i:=0) (by simp)
 have c1:W2.cell? ⟨w.heap.size,1,none⟩=some (.int .u32 s1):=Qf hM.st (i:=1) (by simp)
 have c2:W2.cell? ⟨w.heap.size,2,none⟩=some (.int .u32 s2):=Qf hM.st (i:=2) (by simp)
 have c3:W2.cell? ⟨w.heap.size,3,none⟩=some (.int .u32 s3):=Qf hM.st (i:=3) (by simp)
 have c4:W2.cell? ⟨w.heap.size,4,none⟩=some (.int .u32 s4):=Qf hM.st (i:=4) (by simp)
 have c5:W2.cell? ⟨w.heap.size,5,none⟩=some (.int .u32 s5):=Qf hM.st (i:=5) (by simp)
 have c6:W2.cell? ⟨w.heap.size,6,none⟩=some (.int .u32 s6):=Qf hM.st (i:=6) (by simp)
 have c7:W2.cell? ⟨w.heap.size,7,none⟩=some (.int .u32 s7):=Qf hM.st (i:=7) (by simp)
 have hX:Mx w (W2.alloc (.cells (cW [s0,s1,s2,s3,s4,s5,s6,s7]).toArray 113)) [s0,s1,s2,s3,s4,s5,s6,s7] ws rs [s0,s1,s2,s3,s4,s5,s6,s7] N W2.heap.size:=Mx.start hM rfl 113;replace hX:Mx w (W2.alloc (.cells #[.int .u32 s0,.int .u32 s1,.int .u32 s2,.int .u32 s3,.int .u32 s4,.int .u32 s5,.int .u32 s6,.int .u32 s7] 113)) [s0,s1,s2,s3,s4,s5,s6,s7] ws rs [s0,s1,s2,s3,s4,s5,s6,s7] N W2.heap.size:=hX;clear hM;go_wp2;clear c0 c1 c2 c3 c4 c5 c6 c7;generalize W2.alloc (.cells #[.int .u32 s0,.int .u32 s1,.int .u32 s2,.int .u32 s3,.int .u32 s4,.int .u32 s5,.int .u32 s6,.int .u32 s7] 113)=W3 at *;generalize W2.heap.size=V at *;clear W2
 go_loopg [7] 64 (fun g i wr => ∃(k:Nat) (v:S8),k<=64∧g=64 - k∧i = .int .i64 k∧Hid (v=rnds (Uw [s0,s1,s2,s3,s4,s5,s6,s7]) rs ws k)∧Mx w wr [s0,s1,s2,s3,s4,s5,s6,s7] ws rs (l8 v) N V)
 case atStart=>go_light;exact⟨0,Uw [s0,s1,s2,s3,s4,s5,s6,s7],Ll _,rfl,rfl,rfl,hX⟩
 case round =>
  clear hX;obtain⟨k,v,hk,rfl,rfl,hv,hX⟩:=hrel
  by_cases hlt:k<64
  ·have xL:(0:Int)<=(k:Int):=Lf _;have xM:(k:Int)<64:=by omega
   obtain⟨a,b',c,d,e,f,g,gh⟩:=v;have cr:=Qf hX.rs (i:=k) (by omega)
   have cw:=Qf hX.ws (i:=k) (by omega)
   have c0:wr.cell? ⟨V,0,none⟩=some (.int .u32 a):=Qf hX.v (i:=0) (by simp[l8])
   have c1:wr.cell? ⟨V,1,none⟩=some (.int .u32 b'):=Qf hX.v (i:=1) (by simp[l8])
   have c2:wr.cell? ⟨V,2,none⟩=some (.int .u32 c):=Qf hX.v (i:=2) (by simp[l8])
   have c3:wr.cell? ⟨V,3,none⟩=some (.int .u32 d):=Qf hX.v (i:=3) (by simp[l8])
   have c4:wr.cell? ⟨V,4,none⟩=some (.int .u32 e):=Qf hX.v (i:=4) (by simp[l8])
   have c5:wr.cell? ⟨V,5,none⟩=some (.int .u32 f):=Qf hX.v (i:=5) (by simp[l8])
   have c6:wr.cell? ⟨V,6,none⟩=some (.int .u32 g):=Qf hX.v (i:=6) (by simp[l8])
   have c7:wr.cell? ⟨V,7,none⟩=some (.int .u32 gh):=Qf hX.v (i:=7) (by simp[l8])
   have f0:wr.frozen? ⟨V,0,none⟩=false:=by have:=(hX.vt 0 (by decide)).2;rwa [Lr] at this
   have f1:wr.frozen? ⟨V,1,none⟩=false:=by have:=(hX.vt 1 (by decide)).2;rwa [Lr] at this
   have f2:wr.frozen? ⟨V,2,none⟩=false:=by have:=(hX.vt 2 (by decide)).2;rwa [Lr] at this
   have f3:wr.frozen? ⟨V,3,none⟩=false:=by have:=(hX.vt 3 (by decide)).2;rwa [Lr] at this
   have f4:wr.frozen? ⟨V,4,none⟩=false:=by have:=(hX.vt 4 (by decide)).2;rwa [Lr] at this
   have f5:wr.frozen? ⟨V,5,none⟩=false:=by have:=(hX.vt 5 (by decide)).2;rwa [Lr] at this
   have f6:wr.frozen? ⟨V,6,none⟩=false:=by have:=(hX.vt 6 (by decide)).2;rwa [Lr] at this
   have f7:wr.frozen? ⟨V,7,none⟩=false:=by have:=(hX.vt 7 (by decide)).2;rwa [Lr] at this
   have HX:Hid (∀x0 x1 x2 x3 x4 x5 x6 x7,Mx w ((((((((wr.setCell ⟨V,0,none⟩ (.int .u32 x0)).setCell ⟨V,1,none⟩ (.int .u32 x1)).setCell ⟨V,2,none⟩ (.int .u32 x2)).setCell ⟨V,3,none⟩ (.int .u32 x3)).setCell ⟨V,4,none⟩ (.int .u32 x4)).setCell ⟨V,5,none⟩ (.int .u32 x5)).setCell ⟨V,6,none⟩ (.int .u32 x6)).setCell ⟨V,7,none⟩ (.int .u32 x7)) [s0,s1,s2,s3,s4,s5,s6,s7] ws rs [x0,x1,x2,x3,x4,x5,x6,x7] N V):=fun x0 x1 x2 x3 x4 x5 x6 x7=>((((((((hX.set 0 x0).set 1 x1).set 2 x2).set 3 x3).set 4 x4).set 5 x5).set 6 x6).set 7 x7)
   have HV:Hid (∀v',v'=S8.rnd ⟨a,b',c,d,e,f,g,gh⟩ (rs.getD k 0) (ws.getD k 0)->v'=rnds (Uw [s0,s1,s2,s3,s4,s5,s6,s7]) rs ws (k+1)):=fun v' h=>by
    rw[h,show S8.mk a b' c d e f g gh=_ from hv];rfl
   clear hX hv;generalize rs.getD k 0=r at *;generalize ws.getD k 0=x at *;go_wp2
   go_region_held3 (fun w'=>w'.cell? ⟨1,k,none⟩=some (.int .u32 r)∧w'.cell? ⟨N,k,none⟩=some (.int .u32 x)∧w'.cell? ⟨V,4,none⟩=some (.int .u32 e)∧w'.cell? ⟨V,5,none⟩=some (.int .u32 f)∧w'.cell? ⟨V,6,none⟩=some (.int .u32 g)∧w'.cell? ⟨V,7,none⟩=some (.int .u32 gh)) (first|assumption|(refine⟨?_,?_,?_,?_,?_,?_⟩ <;> assumption)) (first|(go_at_call 124;refine(QcE _ _ _ (by decide) (by decide)).mono ?_;rintro e w' ⟨rfl,q,rfl⟩))
   go_wp2
   go_region_held3 (fun w'=>w'.cell? ⟨V,0,none⟩=some (.int .u32 a)∧w'.cell? ⟨V,1,none⟩=some (.int .u32 b')∧w'.cell? ⟨V,2,none⟩=some (.int .u32 c)) (first|assumption|(refine⟨?_,?_,?_⟩ <;> assumption)) (first|(go_at_call 124;refine(QcE _ _ _ (by decide) (by decide)).mono ?_;rintro e w' ⟨rfl,q,rfl⟩))
   go_wp2
   go_roundg (64 - (k+1))
   case rel =>
    go_light;refine⟨k+1,S8.rnd ⟨a,b',c,d,e,f,g,gh⟩ r x,by omega,rfl,by go_num,HV.out (S8.rnd ⟨a,b',c,d,e,f,g,gh⟩ r x) rfl,?_⟩
    simp only[l8,S8.rnd,Qom,Qon];refine Mx.same (HX.out _ _ _ _ _ _ _ _) ?_ ?_ ?_ ?_
    all_goals rfl
   case measure=>go_light;omega
  ·obtain rfl:k=64:=by omega
   have xH:Hid (YT rs [s0,s1,s2,s3,s4,s5,s6,s7] (tB b)=sumI (Uw [s0,s1,s2,s3,s4,s5,s6,s7]) v):=by
    show _=_
    rw[show v=_ from hv,show ws=_ from HE];rfl
   clear hk hlt hv;go_wp2
   go_loopg [10] 8 (fun g i wr => ∃k:Nat,k<=8∧g=8 - k∧i = .int .i64 k∧Mx w wr [s0,s1,s2,s3,s4,s5,s6,s7] ws rs (addL (Uw [s0,s1,s2,s3,s4,s5,s6,s7]) v k) N V)
   case atStart=>go_light;exact⟨0,Ll _,rfl,rfl,hX⟩
   case round =>
    clear hX;obtain⟨k,hk,rfl,rfl,hX⟩:=hrel
    by_cases hlt:k<8
    ·have xL:(0:Int)<=(k:Int):=Lf _;have xM:(k:Int)<8:=by omega
     have cv:=Qf hX.v (i:=k) (by rw[hX.vlen];omega)
     rw[Qhr _ _ _ _ (Ld _)] at cv;have cs:wr.cell? ⟨w.heap.size,k,none⟩=some (.int .u32 ((l8 (Uw [s0,s1,s2,s3,s4,s5,s6,s7])).getD k 0)):=Qf hX.st (i:=k) hlt;have fv:wr.frozen? ⟨V,k,none⟩=false:=by have:=(hX.vt k hlt).2;rwa [Lr] at this
     have HF:Hid (∀x,Mx w (wr.setCell ⟨V,k,none⟩ (.int .u32 x)) [s0,s1,s2,s3,s4,s5,s6,s7] ws rs ((addL (Uw [s0,s1,s2,s3,s4,s5,s6,s7]) v k).set k x) N V):=fun x=>hX.set k x
     have HV:Hid (addL (Uw [s0,s1,s2,s3,s4,s5,s6,s7]) v (k+1)=(addL (Uw [s0,s1,s2,s3,s4,s5,s6,s7]) v k).set k (IntKind.u32.wrap ((l8 v).getD k 0+(l8 (Uw [s0,s1,s2,s3,s4,s5,s6,s7])).getD k 0))):=rfl;clear hX;generalize (l8 v).getD k 0=x at *;generalize (l8 (Uw [s0,s1,s2,s3,s4,s5,s6,s7])).getD k 0=y at *;go_wp2
     go_region
     all_goals
      go_wp2
      go_roundg (8 - (k+1))
      case rel =>
       go_light;refine⟨k+1,by omega,rfl,by go_num,?_⟩
       rw[HV.out,IntKind.wrap_u32'];exact(HF.out _).same rfl rfl rfl rfl
      case measure=>go_light;omega
    ·obtain rfl:k=8:=by omega
     rw[QiP] at hX;have xO:=hX.vlen;have xN:=hX.v;have xB:(prog.info? 113).map (·.size)=some (cW (sumI (Uw [s0,s1,s2,s3,s4,s5,s6,s7]) v)).length:=UM;have xC:(prog.info? 113).map (·.size)=some (cW (sumI (Uw [s0,s1,s2,s3,s4,s5,s6,s7]) v)).toArray.size:=UM;have xD:wr.there (w.heap.size+1) 0 (cW (sumI (Uw [s0,s1,s2,s3,s4,s5,s6,s7]) v)).toArray.size:=hX.res;have xF:=hX.below;clear hX;generalize hE:sumI (Uw [s0,s1,s2,s3,s4,s5,s6,s7]) v=F at *;have HF:Hid (YT rs [s0,s1,s2,s3,s4,s5,s6,s7] (tB b)=F):=xH;clear hE xH
     go_wp2_with (first|(refine wpList_load_mid rfl 113 _ rfl V 0 rfl (cW F) _ xN underlying113 rfl xB ?_)|(refine wpList_store_mid rfl 113 _ _ rfl (w.heap.size+1) 0 (cW F).toArray rfl rfl xD xC (all_oneCell_toArray (UC F)) ?_))
     refine Lp (v := .agg (cW F).toArray) ?_ rfl ⟨by rw[HF.out],?_⟩
     ·refine Yj results66 _ _ (w.heap.size+1) 0 (cW F) (.array 8 112) ?_ ?_ underlying113 rfl xB
      ·rfl
      ·go_light
       simpa using World.rangeAt_setCells_same _ _ _ _ (by simpa using xD)
     ·go_light;exact Qs xF (by omega) _ _
def tl(n:Int):Nat->List Int
 | 0=>[]
 | j+1=>(n / 256^j % 256)::tl n j
theorem Jv(n:Int)(j:Nat):(tl n j).length=j:=by
 induction j with
 | zero=>rfl
 | succ j ih=>simp[tl,ih]
theorem Qae(n:Int)(j:Nat):Bytes (tl n j):=by
 induction j with
 | zero=>intro x hx;cases hx
 | succ j ih =>
  intro x hx
  rcases List.mem_cons.1 hx with rfl|hx
  ·omega
  ·exact ih x hx
structure Bg(w wr:World)(l:List Int)(K:Nat):Prop where
 len:l.length=K
 below:Zb w wr
 out:wr.rangeAt w.heap.size 0 (cB l)
 outt:wr.there w.heap.size 0 K
theorem Bg.set{w wr:World}{l:List Int}{K:Nat}(h:Bg w wr l K)(m:Nat)(v:Int):Bg w (wr.setCell ⟨w.heap.size,m,none⟩ (.int .u8 v)) (l.set m v) K:=by
 refine⟨by rw[I0];exact h.len,h.below.setCell (Ld _) _,?_,Yb h.outt _ _⟩
 have:=UB h.out m (.int .u8 v)
 rwa [Lr,QfE] at this
theorem Ql3(K j:Nat)(n v:Int)(h:j<K):(List.replicate (K - j) 0++tl n j).set (K - 1 - j) v=List.replicate (K - (j+1)) 0++v::tl n j:=by
 obtain⟨m,rfl⟩ : ∃m,K=j+1+m:=⟨K - (j+1),by omega⟩
 rw[show j+1+m - j=m+1 by omega,show j+1+m - 1 - j=m by omega,show j+1+m - (j+1)=m by omega,List.replicate_succ',LH,Nj _ _ (by simp)]
 simp
theorem QhF(w:World)(b K:Nat)(l:List Int)(hl:l.length=K)(h:w.rangeAt b 0 (cB l)):(convert 95 9 (.slice (some ⟨b,0,none⟩) K K)).run prog w = .ok (.string (Q4 l)) w:=QbD w b l K hl h
theorem Qgu(n:Int)(h0:0<=n)(h64:n<18446744073709551616)(K:Nat)(hK:K<=8)
  (hmk : ∀u:World,(Instr.makeSlice 95 (.int .i64 (K:Int)) (.int .i64 (K:Int))).run prog u = .ok (.slice (some ⟨u.heap.size,0,none⟩) K K) (u.alloc (.cells (cB (List.replicate K 0)).toArray 5))) (w:World) :
  Zr 65 #[.int .u64 n,.int .i64 (K:Int)] w (.string (Q4 (tl n K))):=by
 have xB:Bg w (w.alloc (.cells (cB (List.replicate K 0)).toArray 5)) (List.replicate K 0) K :=
  ⟨by simp,(Lb _ _).alloc (Ld _) _,Qu _ _ _,Qz _ _ _ _ (by simp[Qw])⟩
 have k0:(0:Int)<=(K:Int):=Lf _;have k8:(K:Int)<=8:=by omega
 go_enter func65,ntmps65;go_wp2;generalize w.alloc (.cells (cB (List.replicate K 0)).toArray 5)=w1 at *;clear hmk
 go_loopg [0,6] K (fun g x i wr => ∃j:Nat,j<=K∧g=K - j∧x = .int .u64 (n / 256^j)∧i = .int .i64 ((K:Int) - 1 - (j:Int))∧Bg w wr (List.replicate (K - j) 0++tl n j) K)
 case atStart =>
  go_light;refine⟨0,Ll _,rfl,?_,?_,?_⟩
  ·simp
  ·simp
  ·simpa [tl] using xB
 case round =>
  clear xB;obtain⟨j,hj,rfl,rfl,rfl,hs⟩:=hrel;have xD:0<=n / 256^j:=Int.ediv_nonneg h0 (Int.pow_nonneg (by decide))
  have xE:n / 256^j<=n:=Int.ediv_le_self _ h0;have xF:n / 256^j<18446744073709551616:=by omega
  by_cases hlt:j<K
  ·obtain⟨m,hm⟩ : ∃m:Nat,j+m+1=K:=⟨K - 1 - j,by omega⟩
   have em:(K:Int) - 1 - (j:Int)=(m:Int):=by omega
   rw[em];have m0:(0:Int)<=(m:Int):=Lf _;have mK:(m:Int)<(K:Int):=by omega
   have m8:(m:Int)<=8:=by omega
   have cm:=Yt hs.out (i:=m) (by rw[hs.len];omega)
   have fm:wr.frozen? ⟨w.heap.size,m,none⟩=false:=by have:=(hs.outt m (by omega)).2;rwa [Lr] at this
   have HF:Hid (Bg w (wr.setCell ⟨w.heap.size,m,none⟩ (.int .u8 (n / 256^j % 256))) (List.replicate (K - (j+1)) 0++tl n (j+1)) K):=by
    have:=hs.set m (n / 256^j % 256)
    rwa [show m=K - 1 - j by omega,Ql3 K j n _ hlt,<-show m=K - 1 - j by omega] at this
   have HD:Hid (n / 256^j / 256=n / 256^(j+1)):=by
    show _=_
    rw[Int.pow_succ,Int.ediv_ediv_of_nonneg (Int.pow_nonneg (by decide))]
   have HM:Hid (j+m+1=K):=hm;clear hs hm em;generalize n / 256^j=x at *;generalize (List.replicate (K - j) 0++tl n j).getD m 0=z at *;go_wp2
   go_roundg (K - (j+1))
   case rel =>
    go_light;refine⟨j+1,by omega,rfl,by rw[<-HD.out],?_,HF.out⟩
    have:=HM.out;go_num
   case measure=>go_light;omega
  ·obtain rfl:j=K:=by omega
   have em:(j:Int) - 1 - (j:Int) = -1:=by omega
   rw[em];have xA:=hs.out;rw[NJ,List.replicate_zero,Ie] at xA;have xC:=QhF wr w.heap.size j (tl n j) (Jv _ _) xA;have HB:Hid (Zb w wr):=hs.below;clear hs xA;go_wp2
   go_ret
   exact⟨rfl,HB.out⟩
theorem big8(n:Int)(h0:0<=n)(h64:n<18446744073709551616)(w:World) :
  Zr 65 #[.int .u64 n,.int .i64 8] w (.string (Q4 (tl n 8))):=Qgu n h0 h64 8 (by decide) (fun u=>by kernel_rfl) w
theorem big4(n:Int)(h0:0<=n)(h64:n<18446744073709551616)(w:World) :
  Zr 65 #[.int .u64 n,.int .i64 4] w (.string (Q4 (tl n 4))):=Qgu n h0 h64 4 (by decide) (fun u=>by kernel_rfl) w
theorem QhO(l:List Int)(acc:BA):(l.foldl (fun r n=>r.push (UInt8.ofNat n.toNat)) acc).data.toList=acc.data.toList++l.map fun n=>UInt8.ofNat n.toNat:=by
 induction l generalizing acc with
 | nil=>simp
 | cons x r ih=>rw[List.foldl_cons,ih];simp[ByteArray.push]
theorem YV(l:List Int):(Q4 l).data.toList=l.map fun n=>UInt8.ofNat n.toNat:=by
 rw[Q4,QhO];rfl
theorem Ob{l:List Int}(h:Bytes l):tB (Q4 l)=l:=by
 rw[tB,YV,List.map_map]
 conv=>rhs;rw[<-List.map_id l]
 apply Iy
 intro x hx;obtain⟨h0,h1⟩:=h x hx;obtain⟨n,rfl⟩:=NT h0;simp;omega
theorem Qmk(s:BA):Q4 (tB s)=s:=by
 have:(Q4 (tB s)).data.toList=s.data.toList:=by
  rw[YV,tB,List.map_map]
  conv=>rhs;rw[<-List.map_id s.data.toList]
  apply Iy
  intro x _;simp
 cases s with
 | mk d =>
  cases h:Q4 (tB ⟨d⟩) with
  | mk d' =>
   rw[h] at this;simp only at this;rw[Array.toList_inj.1 this]
def msg(t:List Int)(z:Nat):List Int:=(t++(128::List.replicate z 0))++tl (8*(t.length:Int)) 8
theorem QeU{l:List Int}(h:l.length=64)(b:Int):Y6 l b 8=l.take 56++tl b 8:=by
 obtain⟨s0,s1,s2,s3,s4,s5,s6,s7,hd⟩:=Qb3 (st:=l.drop 56) (by simp[h])
 have e:l=l.take 56++[s0,s1,s2,s3,s4,s5,s6,s7]:=by rw[<-hd,Nk]
 have hA:(l.take 56).length=56:=by simp[h]
 generalize l.take 56=A at *;subst e;simp only[Y6,tl,IntKind.wrap_u8'];rw[Nj _ _ (by omega),Nj _ _ (by omega),Nj _ _ (by omega),Nj _ _ (by omega),Nj _ _ (by omega),Nj _ _ (by omega),Nj _ _ (by omega),Nj _ _ (by omega),hA]
 congr 1
theorem QiE(A:List Int)(h:A.length=56)(B:List Int):(A++B).take 56=A:=by
 rw[Ns (by omega),LD (by omega)]
theorem QlB(rs t:List Int)(z:Nat)(hlt:t.length<1152921504606846976)(hz:(t.length+(z+1)+8) % 64=0)(hz2:z<64) :
  stN rs IV (msg t z) ((msg t z).length / 64)=Q9 rs (stN rs IV t (t.length / 64)) (pad (t.drop (64*(t.length / 64)))) t.length:=by
 have xJ:(msg t z).length=t.length+(z+1)+8:=by simp[msg,Jv];omega
 have xE:IntKind.u64.wrap ((t.length:Int)*8)=8*(t.length:Int):=by
  simp[IntKind.wrap,IntKind.bits,IntKind.signed];omega
 have xI:(t.drop (64*(t.length / 64))).length=t.length % 64:=by rw[Lv];omega
 have xG:(pad (t.drop (64*(t.length / 64)))).length=64:=Uv (by omega)
 have xH:(pad (t.drop (64*(t.length / 64)))).take (t.length % 64)=t.drop (64*(t.length / 64)):=by
  rw[pad,Ns (by omega),LD (by omega)]
 have xA : ∀q,q=t.length / 64->(msg t z).drop (64*q)=(t.drop (64*q)++(128::List.replicate z 0))++tl (8*(t.length:Int)) 8:=fun q hq=>by
  unfold msg;rw[NA (by simp;omega),NA (by omega)]
 have xC:stN rs IV (msg t z) (t.length / 64)=stN rs IV t (t.length / 64):=by
  unfold msg;rw[LH,Ow _ _ _ _ _ (by omega)]
 unfold Q9;rw[xE];have xB:U5 (pad (t.drop (64*(t.length / 64)))) (t.length % 64)=(t.drop (64*(t.length / 64))++[128])++List.replicate (64 - (t.length % 64+1)) 0:=by
  rw[Qdz xG (ID _ (by decide)),xH]
 by_cases h55:55<t.length % 64
 ·rw[Lm h55];have hq:(msg t z).length / 64=t.length / 64+1+1:=by omega
  have xD:z=(64 - (t.length % 64+1))+56:=by omega
  rw[hq,stN,stN,xC,xA _ rfl,xB,QeU (by simp)]
  have e1:((t.drop (64*(t.length / 64))++(128::List.replicate z 0))++tl (8*(t.length:Int)) 8).take 64=(t.drop (64*(t.length / 64))++[128])++List.replicate (64 - (t.length % 64+1)) 0:=by
   rw[xD,<-Il];have:t.drop (64*(t.length / 64))++(128::(List.replicate (64 - (t.length % 64+1)) 0++List.replicate 56 0))++tl (8*(t.length:Int)) 8=((t.drop (64*(t.length / 64))++[128])++List.replicate (64 - (t.length % 64+1)) 0)++(List.replicate 56 0++tl (8*(t.length:Int)) 8):=by simp
   rw[this,Ns (by simp;omega),LD (by simp;omega)]
  have e2:((msg t z).drop (64*(t.length / 64+1))).take 64=(List.replicate 64 (0:Int)).take 56++tl (8*(t.length:Int)) 8:=by
   have xF:(msg t z).drop (64*(t.length / 64+1))=((msg t z).drop (64*(t.length / 64))).drop 64:=by rw[Wa];congr 1
   rw[xF,xA _ rfl,xD,<-Il];have:t.drop (64*(t.length / 64))++(128::(List.replicate (64 - (t.length % 64+1)) 0++List.replicate 56 0))++tl (8*(t.length:Int)) 8=((t.drop (64*(t.length / 64))++[128])++List.replicate (64 - (t.length % 64+1)) 0)++(List.replicate 56 0++tl (8*(t.length:Int)) 8):=by simp
   rw[this,NA (by simp;omega),Nm (by simp;omega),Ie,LD (by simp[Jv])]
   simp
  rw[e1,e2]
 ·rw[Le h55];have hq:(msg t z).length / 64=t.length / 64+1:=by omega
  have xD:z=55 - t.length % 64:=by omega
  rw[hq,stN,xC,xA _ rfl,xB,QeU (by simp;omega)]
  congr 1
  rw[LD (by simp[Jv];omega)]
  congr 1
  have:(t.drop (64*(t.length / 64))++[128])++List.replicate (64 - (t.length % 64+1)) 0=(t.drop (64*(t.length / 64))++(128::List.replicate z 0))++List.replicate 8 0:=by
   rw[show 64 - (t.length % 64+1)=z+8 by omega,<-Il];simp
  rw[this,QiE _ (by simp;omega)]
def outR(H:List Int):Nat->List Int
 | 0=>[]
 | k+1=>outR H k++tl (H.getD k 0) 4
theorem QlN(H:List Int)(k:Nat):outR H k=UY H k:=by
 induction k with
 | zero=>rfl
 | succ k ih =>
  rw[outR,UY,ih];simp[tl,w4,IntKind.wrap_u8']
theorem Oa(a b:BA):tB (a++b)=tB a++tB b:=by simp[tB]
theorem Qof:(prog.info? 5).map (fun i=>(i.zero,i.size,i.bytes))=some (some (.int .u8 0),1,1):=by kernel_rfl
theorem Qi3(w:World)(b:Nat)(l:List Int)(n cap:Nat)(hl:l.length=n)(h:w.rangeAt b 0 (cB l)):(convert 95 9 (.slice (some ⟨b,0,none⟩) n cap)).run prog w = .ok (.string (Q4 l)) w:=by
 subst hl;rw[run_convert_bytes_string w 95 9 5 _ _ _ underlying95 underlying5 underlying9];refine run_bytesToString w ⟨b,0,none⟩ l.length cap l ?_
 have:=run_loadCells_list (P:=prog) w ⟨b,0,none⟩ (cB l) (fun j v hv=>by rw[Addr.add_mid];exact h j v hv)
 rwa [Qw] at this
theorem Qcd{w:World}{base g n cap:Nat}{l:List Int}(h:w.ownsRow base 5 1 (.slice (some ⟨g,0,none⟩) n cap) n (cB l)):w.rangeAt g 0 (cB l)∧base<=g:=by
 obtain⟨h1,h2⟩:=h
 rcases h2 with ⟨h2,_⟩|⟨g',cap',cur,hv,hg,hh,hn,hc,hs,ht⟩
 ·cases h2
 ·injection hv with e1 e2 e3
  injection e1 with e1
  injection e1 with e1
  subst e1;refine⟨fun j v hj => ?_,hg⟩
  rw[Lr,cell_of_row w g j cur 5 (0,0) hh];rw[<-ht,Nc] at hj
  split at hj
  ·simpa using hj
  ·cases hj
theorem Qh4{w:World}{base n:Nat}{v:Value}{xs:List Value}(h:w.ownsRow base 5 1 v n xs)(hn:0<n) : ∃g cap,v = .slice (some ⟨g,0,none⟩) n cap∧base<=g:=by
 obtain⟨h1,h2⟩:=h
 rcases h2 with ⟨_,h2⟩|⟨g,cap,cur,hv,hg,_⟩
 ·omega
 ·exact⟨g,cap,hv,hg⟩
theorem QcV(z:Nat):Bytes (128::List.replicate z 0):=by
 intro x hx
 rcases List.mem_cons.1 hx with rfl|hx
 ·omega
 ·rw[List.eq_of_mem_replicate hx];omega
theorem Oi{w w2:World}{B:Nat}(h:Below w.drew.heap.size w.drew w2)(hB:B<=w.heap.size):Below B w w2 :=
 ⟨h.os,h.tape,h.output,h.size,fun k hk=>h.block k (L5 hk hB)⟩
theorem QkB(r:BA)(p q:Nat):tB (r.extract p q)=((tB r).drop p).take (q - p):=by
 have:(r.extract p q).data.toList=(r.data.toList.drop p).take (q - p):=by
  rw[NH];simp[Array.toList_extract,List.extract]
 rw[tB,this,tB,IX,IW]
theorem QjT(H:List Int)(m:Nat):(outR H m).length=4*m:=by
 induction m with
 | zero=>rfl
 | succ m ih=>rw[outR,Lg,ih,Jv];omega
theorem QkU(x:Int):0<=IntKind.u32.wrap x∧IntKind.u32.wrap x<4294967296:=by rw[IntKind.wrap_u32'];omega
theorem QkQ{l:List Int}(h : ∀x∈l,0<=x∧x<4294967296)(i:Nat):0<=l.getD i 0∧l.getD i 0<4294967296:=by
 rw[La]
 cases e:l[i]? with
 | none=>exact⟨by decide,by decide⟩
 | some x=>exact h x (Ni e)
theorem Qmj(rs t:List Int)(k i:Nat):0<=(stN rs IV t k).getD i 0∧(stN rs IV t k).getD i 0<4294967296:=by
 refine QkQ (fun x hx => ?_) i
 cases k with
 | zero=>simp[stN,IV] at hx;omega
 | succ k =>
  rw[stN,YT,sumI] at hx;simp only[List.mem_cons,List.not_mem_nil,or_false] at hx
  rcases hx with rfl|rfl|rfl|rfl|rfl|rfl|rfl|rfl <;> exact QkU _
theorem Qfz{x:Int}(h0:0<=x)(h1:x<4294967296):IntKind.u64.wrap x=x:=by
 simp[IntKind.wrap,IntKind.bits,IntKind.signed];omega
theorem QnH{w:World}{g:Nat}{o:Obj}(h:w.heap[g]? = some o):g<w.heap.size:=by
 rcases I8 g w.heap.size with h'|h'
 ·exact h'
 ·rw[Array.getElem?_eq_none h'] at h;cases h
theorem endz(L:Nat) : ∃z,z<64∧(L+(z+1)+8) % 64=0:=⟨(64 - (L+9) % 64) % 64,by omega,by omega⟩
theorem Qih(w:World)(ao:OA)(b off len cap:Nat)(ss:LB)(hl:ss.length=len)(hao:0<len->ao=some ⟨b,off,none⟩)(hs:w.rangeAt b off (ss.map Value.string))
  (hmx:len<=1048576) (rs:List Int) (hrl:rs.length=64) (hr:w.rangeAt 1 0 (cW rs)) (hiv:w.rangeAt 0 0 (cW IV)) (hlen:(Yl ss).length<1152921504606846976) :
  Zr 31 #[.slice ao len cap] w (.string (Jd rs (Yl ss))):=by
 have zK:1<w.heap.size:=QU hr (by intro h;have:=LU List.length h;simp[Qo,hrl] at this)
 have xF:Hid (0<w.heap.size):=QU hiv (by intro h;cases h)
 go_enter func31,ntmps31;go_wp2
 go_loopg [3,4] len (fun g x i wx=>w=wx ∧ ∃(k:Nat) (text:BA),k<=len∧g=len - k∧x = .string text∧i = .int .i64 k∧Hid (tB text=Yl (ss.take k)))
 case atStart=>go_light;exact⟨rfl,0,_,Ll _,rfl,rfl,rfl,rfl⟩
 case round =>
  obtain⟨rfl,k,text,hk,rfl,rfl,rfl,HT⟩:=hrel
  by_cases hlt:k<len
  ·obtain rfl:=hao (by omega)
   have yW:k<ss.length:=by omega
   have ck:w.cell? ⟨b,off+k,none⟩=some (.string (ss.getD k ByteArray.empty)) :=
    hs k _ (by simp[List.getElem?_eq_getElem yW,List.getD_eq_getElem?_getD])
   have hz:(k:Int)<(len:Int):=by omega
   have yA:=QcW ss k yW;have zB:(Yl (ss.take (k+1))).length<=(Yl ss).length:=OM _ _;have xU:text.size=(Yl (ss.take k)).length:=by rw[<-Yz,HT.out]
   have yE : ¬(9223372036854775807<text.size+(ss.getD k ByteArray.empty).size):=by
    rw[yA,Lg,Yz] at zB;omega
   have HF:Hid (tB (text++ss.getD k ByteArray.empty)=Yl (ss.take (k+1))):=by
    show _=_
    rw[Oa,HT.out,yA]
   clear yA zB xU;generalize ss.getD k ByteArray.empty=part at *;go_wp2
   go_roundg (len - (k+1))
   case rel=>go_light;exact⟨rfl,k+1,_,by omega,rfl,rfl,by go_num,HF.out⟩
   case measure=>go_light;omega
  ·obtain rfl:k=len:=by omega
   have hz : ¬(k:Int)<(k:Int):=by omega
   have hT:=HT.out;rw[LD (by omega)] at hT
   have xU:text.size=(Yl ss).length:=by rw[<-Yz,hT]
   have zI:Hid (tB text=Yl ss):=hT;clear hT HT hs hao hl;obtain⟨zN,zE,zF⟩:=endz text.size;obtain⟨i0,hi,zV,yM,yN⟩:=info_parts Qof;have yU:(w.alloc (.cells #[.int .u8 128] 5)).ownsRow w.heap.size 5 1 (.slice (some ⟨w.heap.size,0,none⟩) 1 1) 1 (cB (128::List.replicate 0 0)) :=
    ⟨rfl,Or.inr ⟨w.heap.size,1,#[.int .u8 128],rfl,Ld _,Lu _ _,Ld _,by unfold maxLen;omega,rfl,rfl⟩⟩
   have yV:Zb w (w.alloc (.cells #[.int .u8 128] 5)):=(Lb _ _).alloc (Ld _) _;have HZ:Hid (zN<64∧(text.size+(zN+1)+8) % 64=0):=⟨zE,zF⟩;have xP:(text.size:Int)<1152921504606846976:=by omega
   have zC:(0:Int)<=(text.size:Int):=Lf _;have xZ:Hid (text.size=(Yl ss).length):=xU;clear zE zF xU
   go_upto_region 7 with (fail)
   generalize w.alloc (.cells #[.int .u8 128] 5)=w1 at *
   go_loopg [5] zN (fun g v wi => ∃(z n g' cap':Nat),n=z+1∧z<=zN∧g=zN - z∧v = .slice (some ⟨g',0,none⟩) n cap'∧wi.ownsRow w.heap.size 5 1 v n (cB (128::List.replicate z 0))∧Zb w wi)
   case atStart=>go_light;exact⟨0,1,_,_,rfl,Ll _,rfl,rfl,yU,yV⟩
   case round =>
    clear yU yV;obtain⟨z,n,g',cap',yG,yL,rfl,rfl,hO,hb⟩:=hrel;obtain⟨s1,yI⟩ : ∃s1:Nat,text.size+n=s1:=⟨_,rfl⟩;obtain⟨s2,yJ⟩ : ∃s2:Nat,s1+8=s2:=⟨_,rfl⟩;have hZ:=HZ.out;have e1:IntKind.i64.wrap ((text.size:Int)+(n:Int))=(s1:Int):=by rw[Yh _ (by omega) (by omega)];omega
    have e2:IntKind.i64.wrap ((s1:Int)+8)=(s2:Int):=by rw[Yh _ (by omega) (by omega)];omega
    have b2:(0:Int)<=(s2:Int):=Lf _;have HN:Hid (n=z+1∧z<=zN∧text.size+n=s1∧s1+8=s2):=⟨yG,yL,yI,yJ⟩;have yD:n<=64:=by omega
    by_cases hne:z<zN
    ·have hm:((s2:Int) % 64 == 0)=false:=by rw[beq_eq_false_iff_ne];omega
     have yQ:Hid (z<zN):=hne;have HG:Hid (w.heap.size<=g'):=(Qcd hO).2;clear hZ yG yL yI yJ xP zC hne;have zY:w.heap.size<=wr.heap.size:=hb.size;have HO:Hid (∀o,(wr.alloc o).ownsRow w.heap.size 5 1 (.slice (some ⟨g',0,none⟩) n cap') n (cB (128::List.replicate z 0))):=fun o=>by
      obtain⟨h1,h2⟩:=hO;refine⟨h1,?_⟩
      rcases h2 with ⟨h2,_⟩|⟨g,cp,cur,hv,hg,hh,r⟩
      ·cases h2
      ·exact Or.inr ⟨g,cp,cur,hv,hg,by rw[Below.heap_alloc _ _ _ (QnH hh)];exact hh,r⟩
     have Hb:Hid (∀o,Zb w (wr.alloc o)):=fun o=>hb.alloc hb.size o
     have zO:Hid ((n+1)*1<=140737488355328):=by show _<=_;omega
     have yC:Hid (n+1<=maxLen):=by show _<=_;unfold maxLen;omega
     clear hO hb
     go_upto_region 8 with (fail)
     go_wp2_with (at_builtin;(refine wpList_append_own _ rfl _ _ 95 rfl w.heap.size 5 i0 (.int .u8 0) 1 1 underlying95 hi zV yM yN rfl (by decide) _ _ _ rfl (HO.out _) ⟨wr.heap.size,0,none⟩ 1 1 [.int .u8 0] rfl rfl (cell_one_new _ _ _) (fun x hx=>by simp at hx;subst hx;rfl) yC.out zO.out (by simp;omega) ?_);intro v' w2 hown' hg' hne')
     obtain⟨g2,xI,zD,yB⟩:=Qh4 hown' (Nat.succ_pos _);rw[zD] at hown' ⊢;have HR:Hid (w2.ownsRow w.heap.size 5 1 (.slice (some ⟨g2,0,none⟩) (n+1) xI) (n+1) (cB (128::List.replicate (z+1) 0))):=by
      have e:cB (128::List.replicate z 0)++[Value.int IntKind.u8 0]=cB (128::List.replicate (z+1) 0):=by
       rw[List.replicate_succ'];simp[cB]
      rw[<-e];exact hown'
     have zG:Hid (Zb w w2):=(Hb.out _).grown hg' (by simp;omega) (fun j hj=>by cases hj;exact HG.out)
     clear hown' hg' hne' zD
     go_roundg (zN - (z+1))
     case rel=>go_light;have:=HN.out;have:=HZ.out;exact⟨z+1,n+1,g2,xI,by omega,by have:=yQ.out;omega,rfl,rfl,HR.out,zG.out⟩
     case measure=>go_light;have:=yQ.out;omega
    ·have zW:z=zN:=by omega
     subst zW;have hm:((s2:Int) % 64 == 0)=true:=by rw[beq_iff_eq];omega
     obtain⟨yH,yB⟩:=Qcd hO;have xG:g'<wr.heap.size:=QU yH (by simp[cB])
     have yO:Hid (w.heap.size<=g'):=yB;have xV:Hid (Zb w wr):=hb;have yK:(Q4 (128::List.replicate z 0)).size=n:=by rw[<-Yz,Ob (QcV z)];simp;omega
     have zQ:=fun w' h=>Qi3 w' g' (128::List.replicate z 0) n cap' (by simp;omega) h
     have yE : ¬(9223372036854775807<text.size+n):=by omega
     have yP:Hid (∀w',Below wr.drew.heap.size wr.drew w'->w'.rangeAt g' 0 (cB (128::List.replicate z 0))):=fun w' h=>Ql h xG (by rw[World.rangeAt_drew];exact yH)
     have zM:IntKind.u64.wrap (8*IntKind.u64.wrap (text.size:Int))=8*(text.size:Int):=by
      simp[IntKind.wrap,IntKind.bits,IntKind.signed];omega
     have xD:=fun w'=>big8 (8*(text.size:Int)) (by omega) (by omega) w'
     have xO:(Q4 (tl (8*(text.size:Int)) 8)).size=8:=by rw[<-Yz,Ob (Qae _ _),Jv]
     have yF : ¬(9223372036854775807<text.size+n+8):=by omega
     clear hO hb yB hZ yG yL yI yJ xP zC hne
     go_upto_region 9 with (fail)
     go_region_held3 (fun w'=>w'.rangeAt g' 0 (cB (128::List.replicate z 0))) (first|assumption|(rw[World.rangeAt_drew];assumption)|(exact yP.out _ (by assumption))) (first|(go_at_call 65;refine(xD _).mono ?_;rintro e w2 ⟨rfl,xE⟩))
     have xB:Hid (Zb w w2):=xV.out.trans (Oi xE xV.out.size);generalize hall:(text++Q4 (128::List.replicate z 0))++Q4 (tl (8*(text.size:Int)) 8)=all at *;have xC:Hid (tB all=msg (Yl ss) z):=by
      show _=_
      have e:=zI.out;rw[<-hall,Oa,Oa,Ob (QcV z),Ob (Qae _ _),msg,e,xZ.out]
     clear hall xE xD zQ yP zM yE yF yK xO;have v0:w2.cell? ⟨0,0,none⟩=some (.int .u32 1779033703):=by rw[xB.out.cell (p:=⟨0,0,none⟩) xF.out];exact Qf hiv (i:=0) (by decide)
     have v1:w2.cell? ⟨0,1,none⟩=some (.int .u32 3144134277):=by rw[xB.out.cell (p:=⟨0,1,none⟩) xF.out];exact Qf hiv (i:=1) (by decide)
     have v2:w2.cell? ⟨0,2,none⟩=some (.int .u32 1013904242):=by rw[xB.out.cell (p:=⟨0,2,none⟩) xF.out];exact Qf hiv (i:=2) (by decide)
     have v3:w2.cell? ⟨0,3,none⟩=some (.int .u32 2773480762):=by rw[xB.out.cell (p:=⟨0,3,none⟩) xF.out];exact Qf hiv (i:=3) (by decide)
     have v4:w2.cell? ⟨0,4,none⟩=some (.int .u32 1359893119):=by rw[xB.out.cell (p:=⟨0,4,none⟩) xF.out];exact Qf hiv (i:=4) (by decide)
     have v5:w2.cell? ⟨0,5,none⟩=some (.int .u32 2600822924):=by rw[xB.out.cell (p:=⟨0,5,none⟩) xF.out];exact Qf hiv (i:=5) (by decide)
     have v6:w2.cell? ⟨0,6,none⟩=some (.int .u32 528734635):=by rw[xB.out.cell (p:=⟨0,6,none⟩) xF.out];exact Qf hiv (i:=6) (by decide)
     have v7:w2.cell? ⟨0,7,none⟩=some (.int .u32 1541459225):=by rw[xB.out.cell (p:=⟨0,7,none⟩) xF.out];exact Qf hiv (i:=7) (by decide)
     have xS:Hid ((w2.alloc (.cells #[.int .u32 1779033703,.int .u32 3144134277,.int .u32 1013904242,.int .u32 2773480762,.int .u32 1359893119,.int .u32 2600822924,.int .u32 528734635,.int .u32 1541459225] 113)).rangeAt w2.heap.size 0 (cW (stN rs IV (tB all) 0))∧(w2.alloc (.cells #[.int .u32 1779033703,.int .u32 3144134277,.int .u32 1013904242,.int .u32 2773480762,.int .u32 1359893119,.int .u32 2600822924,.int .u32 528734635,.int .u32 1541459225] 113)).there w2.heap.size 0 8∧Zb w (w2.alloc (.cells #[.int .u32 1779033703,.int .u32 3144134277,.int .u32 1013904242,.int .u32 2773480762,.int .u32 1359893119,.int .u32 2600822924,.int .u32 528734635,.int .u32 1541459225] 113))) :=
      ⟨Qu w2 (cW IV) 113,Qz w2 #[.int .u32 1779033703,.int .u32 3144134277,.int .u32 1013904242,.int .u32 2773480762,.int .u32 1359893119,.int .u32 2600822924,.int .u32 528734635,.int .u32 1541459225] 113 8 (by simp),xB.out.alloc xB.out.size _⟩
     have yS:Hid (w.heap.size<=w2.heap.size):=xB.out.size
     go_upto_region 11 with (fail)
     clear v0 v1 v2 v3 v4 v5 v6 v7;generalize w2.alloc (.cells #[.int .u32 1779033703,.int .u32 3144134277,.int .u32 1013904242,.int .u32 2773480762,.int .u32 1359893119,.int .u32 2600822924,.int .u32 528734635,.int .u32 1541459225] 113)=w3 at *;generalize w2.heap.size=Sg at *;obtain⟨nb,yY⟩ : ∃nb,all.size=64*nb:=by
      have e:=LU List.length xC.out;rw[Yz] at e;have xT:(msg (Yl ss) z).length=(Yl ss).length+(z+1)+8:=by simp[msg,Jv];omega
      have:=HZ.out.2;have:=xZ.out;exact⟨all.size / 64,by omega⟩
     have xK:all.size<2305843009213693952:=by
      have e:=LU List.length xC.out;rw[Yz] at e;have xT:(msg (Yl ss) z).length=(Yl ss).length+(z+1)+8:=by simp[msg,Jv];omega
      have:=HZ.out.1;omega
     have yR:Hid (all.size=64*nb∧all.size<2305843009213693952):=⟨yY,xK⟩;have HX:Hid (w.heap.size<=g'∧g'<wr.heap.size):=⟨yO.out,xG⟩;clear yY xK xG yH xV xB yO e1 e2 b2 yD hm HN;go_wp2
     go_loopg [8] nb (fun g i wi => ∃(j p:Nat),p=64*j∧j<=nb∧g=nb - j∧i = .int .i64 (p:Int)∧wi.rangeAt Sg 0 (cW (stN rs IV (tB all) j))∧wi.there Sg 0 8∧Zb w wi)
     case atStart=>go_light;exact⟨0,0,rfl,Ll _,rfl,rfl,xS.out.1,xS.out.2.1,xS.out.2.2⟩
     case round =>
      clear xS HX;obtain⟨j,p,hp,hj,rfl,rfl,xA,xR,hb⟩:=hrel;have hN:=yR.out
      by_cases hjl:j<nb
      ·obtain⟨q,hq⟩ : ∃q:Nat,p+64=q:=⟨_,rfl⟩;have zX:IntKind.i64.wrap ((p:Int)+64)=(q:Int):=by rw[Yh _ (by omega) (by omega)];omega
       have b0:(0:Int)<=(p:Int):=Lf _;have b1:(p:Int)<=(q:Int):=by omega
       have b2:(q:Int)<=(all.size:Int):=by omega
       have b3:(p:Int)<(all.size:Int):=by omega
       have zR:(all.extract p q).size=64:=by rw[II];omega
       have zU:wr.rangeAt 1 0 (cW rs):=Ql hb zK hr;have zT:wr.drew.rangeAt 1 0 (cW rs):=by rw[World.rangeAt_drew];exact zU
       have xH:(stN rs IV (tB all) j).length=8:=Qeh rfl j;have xX:Hid (YT rs (stN rs IV (tB all) j) (tB (all.extract p q))=stN rs IV (tB all) (j+1)):=by
        show _=_
        rw[stN,QkB,hp]
        congr 2
        omega
       obtain⟨st,xN⟩ : ∃st,st=stN rs IV (tB all) j:=⟨_,rfl⟩;rw[<-xN] at xA xH xX;clear xN;obtain⟨s0,s1,s2,s3,s4,s5,s6,s7,rfl⟩:=Qb3 xH;have c0:wr.cell? ⟨Sg,0,none⟩=some (.int .u32 s0):=Qf xA (i:=0) (by simp)
       have c1:wr.cell? ⟨Sg,1,none⟩=some (.int .u32 s1):=Qf xA (i:=1) (by simp)
       have c2:wr.cell? ⟨Sg,2,none⟩=some (.int .u32 s2):=Qf xA (i:=2) (by simp)
       have c3:wr.cell? ⟨Sg,3,none⟩=some (.int .u32 s3):=Qf xA (i:=3) (by simp)
       have c4:wr.cell? ⟨Sg,4,none⟩=some (.int .u32 s4):=Qf xA (i:=4) (by simp)
       have c5:wr.cell? ⟨Sg,5,none⟩=some (.int .u32 s5):=Qf xA (i:=5) (by simp)
       have c6:wr.cell? ⟨Sg,6,none⟩=some (.int .u32 s6):=Qf xA (i:=6) (by simp)
       have c7:wr.cell? ⟨Sg,7,none⟩=some (.int .u32 s7):=Qf xA (i:=7) (by simp)
       have xM:=fun w' h=>QhX [s0,s1,s2,s3,s4,s5,s6,s7] rfl (all.extract p q) zR w' rs hrl h
       rw[xX.out] at xM;have yT:(stN rs IV (tB all) (j+1)).length=8:=Qeh rfl _;generalize hFE:stN rs IV (tB all) (j+1)=F at *;have zH:Hid (stN rs IV (tB all) (j+1)=F):=hFE;clear hFE;have zA : ∀w':World,w'.there Sg 0 8->(storeCells ⟨Sg,0,none⟩ (cW F)).run prog w' = .ok () (w'.setCells Sg 0 (cW F)):=fun w' h=>by
        have yX:(cW F).length=8:=by rw[Qo,yT]
        have:=run_storeCells_cells (P:=prog) Sg 0 (cW F) 0 w' (by rw[yX];intro j hj;simpa using (h j hj).1) (by rw[yX];intro j hj;simpa using (h j hj).2) (UC F)
        simpa using this
       have zP:(cW F).length=8:=by rw[Qo,yT]
       have HK:Hid (∀w',Below wr.drew.heap.size wr.drew w'->w'.there Sg 0 8∧Zb w w'):=fun w' h=>⟨Ye h (JV xR (by decide)) (by rw[World.there_drew];exact xR),hb.trans (Oi h hb.size)⟩
       have HP:Hid (p=64*j∧p+64=q):=⟨hp,hq⟩;clear hp hq xA xR hb xX hN xH
       go_upto_region 14 with (fail)
       go_region_with (go_at_call 66;refine(xM _ zT).mono ?_;rintro e w4 ⟨rfl,xE⟩;have xQ:=(HK.out _ xE).1)
       have zJ:Hid (Zb w w4):=(HK.out _ xE).2;clear HK xE;go_wp2
       go_roundg (nb - (j+1))
       case rel =>
        go_light;have:=HP.out;have:=yS.out;refine⟨j+1,q,by omega,by omega,rfl,?_,?_,World.there_setCells xQ _ _ _,Qs zJ.out yS.out _ _⟩
        ·have:(p:Int)+64=(q:Int):=by omega
         first|rw[this]|rfl
        ·rw[zH.out];exact World.rangeAt_setCells_same _ _ _ _ (by rw[zP];exact xQ)
       case measure=>go_light;omega
      ·have zS:j=nb:=by omega
       subst zS;have zZ : ¬((p:Int)<(all.size:Int)):=by omega
       have zL:(stN rs IV (tB all) j).length=8:=Qeh rfl j;have xJ : ∀i,0<=(stN rs IV (tB all) j).getD i 0∧(stN rs IV (tB all) j).getD i 0<4294967296:=fun i=>Qmj rs _ j i
       have xY:Hid (Q4 (UY (stN rs IV (tB all) j) 8)=Jd rs (Yl ss)):=by
        show _=_
        have e:=xC.out;have xT:(msg (Yl ss) z).length=all.size:=by rw[<-e,Yz]
        have hz:=HZ.out;rw[xZ.out] at hz;have:=QlB rs (Yl ss) z hlen hz.2 hz.1;rw[xT,show all.size / 64=j by omega] at this
        rw[e,this,Jd,shaT]
       have HP:Hid (Sg<wr.heap.size):=JV xR (by decide)
       clear hp hj hN xR yR xC hjl;generalize stN rs IV (tB all) j=H at *;go_wp2
       go_loopg [9,10] 8 (fun g x i wi => ∃(m:Nat) (out:BA),m<=8∧g=8 - m∧x = .string out∧i = .int .i64 m∧Hid (tB out=outR H m)∧wi.rangeAt Sg 0 (cW H)∧Zb w wi)
       case atStart=>go_light;exact⟨0,_,Ll _,rfl,rfl,rfl,rfl,xA,hb⟩
       case round =>
        clear xA hb HP;obtain⟨m,out,hm,rfl,rfl,rfl,HO,xA,hb⟩:=hrel;have yZ:out.size=4*m:=by rw[<-Yz,HO.out,QjT]
        by_cases xT:m<8
        ·have m0:(0:Int)<=(m:Int):=Lf _;have m8:(m:Int)<8:=by omega
         have cm:=Qf xA (i:=m) (by omega)
         have hx:=xJ m;have kA:IntKind.u64.wrap (H.getD m 0)=H.getD m 0:=Qfz hx.1 hx.2;have xD:=fun w'=>big4 (H.getD m 0) hx.1 (by omega) w'
         have xO:(Q4 (tl (H.getD m 0) 4)).size=4:=by rw[<-Yz,Ob (Qae _ _),Jv]
         have yE : ¬(9223372036854775807<out.size+4):=by omega
         have HF:Hid (tB (out++Q4 (tl (H.getD m 0) 4))=outR H (m+1)):=by
          show _=_
          rw[Oa,HO.out,Ob (Qae _ _),outR]
         have xL:Sg<wr.heap.size:=QU xA (by intro h;have:=LU List.length h;rw[Qo,zL] at this;cases this)
         have HK:Hid (∀w',Zb wr w'->w'.rangeAt Sg 0 (cW H)∧Zb w w'):=fun w' h=>⟨Ql h xL xA,hb.trans (h.mono hb.size)⟩
         clear xA hb xJ yZ xL;generalize H.getD m 0=x at *
         go_wp2_with (go_at_call 65;refine(xD _).mono ?_;rintro e w5 ⟨rfl,xE⟩)
         go_roundg (8 - (m+1))
         case rel=>go_light;exact⟨m+1,_,by omega,rfl,rfl,by go_num,HF.out,(HK.out _ xE).1,(HK.out _ xE).2⟩
         case measure=>go_light;omega
        ·obtain rfl:m=8:=by omega
         have xW:Hid (out=Jd rs (Yl ss)):=by
          show _=_
          rw[<-xY.out,<-QlN,<-HO.out,Qmk]
         have Hb:Hid (Zb w wr):=hb;clear xA hb yZ;go_wp2
         go_ret
         exact⟨by rw[<-xW.out];rfl,Hb.out⟩
end Go.Proofs.YtdocjikpcbmcgaaGreatDoor
