/- Own work. -/
import Derived.Test.YtoblgjledefdbaaGreatDoorQc20
set_option maxRecDepth 100000
set_option maxHeartbeats 2000000
namespace Go.Proofs.YtoblgjledefdbaaGreatDoor
open Go.RowKit
attribute [local go_sem ↓] Go.wp_at_zero Go.wp_at_succ
open Go.Proofs.Tryz
def l8(v:S8):List Int:=[v.a,v.b,v.c,v.d,v.e,v.f,v.g,v.h]
def addL(s v:S8):Nat->List Int
 | 0=>l8 v
 | k+1=>(addL s v k).set k (IntKind.u32.wrap ((l8 v).getD k 0+(l8 s).getD k 0))
theorem Qha(s v:S8)(k j:Nat)(h:k<=j):(addL s v k).getD j 0=(l8 v).getD j 0:=by
 induction k with
 | zero=>rfl
 | succ k ih=>rw[addL,Lc,IF (by omega),<-Lc,ih (by omega)]
theorem QiG(s v:S8):addL s v 8=sumI s v:=by
 have:addL s v 8=[IntKind.u32.wrap (v.a+s.a),IntKind.u32.wrap (v.b+s.b),IntKind.u32.wrap (v.c+s.c),IntKind.u32.wrap (v.d+s.d),IntKind.u32.wrap (v.e+s.e),IntKind.u32.wrap (v.f+s.f),IntKind.u32.wrap (v.g+s.g),IntKind.u32.wrap (v.h+s.h)]:=rfl;rw[this,sumI];simp only[Int.add_comm]
theorem QpJ(a b c e f g h r x:Int):IntKind.u32.wrap (oneI e f g h r x+twoI a b c) =
  (h+bits .xor .u32 (bits .xor .u32 (Uo e 6) (Uo e 11)) (Uo e 25)+bits .xor .u32 (bits .and .u32 e f) (bits .and .u32 (bits .xor .u32 IntKind.u32.max e) g)+r+x+(bits .xor .u32 (bits .xor .u32 (Uo a 2) (Uo a 13)) (Uo a 22)+bits .xor .u32 (bits .xor .u32 (bits .and .u32 a b) (bits .and .u32 a c)) (bits .and .u32 b c)))%4294967296:=by
 simp only[oneI,twoI,IntKind.wrap_u32'];omega
theorem QpK(d e f g h r x:Int):IntKind.u32.wrap (d+oneI e f g h r x) =
  (d+(h+bits .xor .u32 (bits .xor .u32 (Uo e 6) (Uo e 11)) (Uo e 25)+bits .xor .u32 (bits .and .u32 e f) (bits .and .u32 (bits .xor .u32 IntKind.u32.max e) g)+r+x))%4294967296:=by
 simp only[oneI,IntKind.wrap_u32'];omega
structure Mx(w wr:World)(st ws rs vl:List Int)(N V:Nat):Prop where
 vlen:vl.length=8
 below:Below w.heap.size w wr
 st:wr.rangeAt w.heap.size 0 (cW st)
 res:wr.there (w.heap.size+1) 0 8
 ws:wr.rangeAt N 0 (cW ws)
 rs:wr.rangeAt 1 0 (cW rs)
 v:wr.rangeAt V 0 (cW vl)
 vt:wr.there V 0 8
 hN:w.heap.size+2<=N
 hV:N<V
 h2:1<w.heap.size
theorem Mx.same{w X Y:World}{st ws rs vl:List Int}{N V:Nat}(h:Mx w X st ws rs vl N V)(e1:Y.heap=X.heap)(e2:Y.os=X.os)(e3:Y.tape=X.tape)(e4:Y.output=X.output):Mx w Y st ws rs vl N V:=by
 have hc:∀a,Y.cell? a=X.cell? a:=fun a=>LI (w:=X) (by rw[e1])
 have hf:∀a,Y.frozen? a=X.frozen? a:=fun a=>N5 (w:=X) (by rw[e1])
 exact⟨h.vlen,⟨e2.trans h.below.os,e3.trans h.below.tape,e4.trans h.below.output,by rw[e1];exact h.below.size,fun k hk=>by rw[e1];exact h.below.block k hk⟩,
  fun j v hv=>by rw[hc];exact h.st j v hv,fun j hj=>by rw[hc,hf];exact h.res j hj,fun j v hv=>by rw[hc];exact h.ws j v hv,fun j v hv=>by rw[hc];exact h.rs j v hv,fun j v hv=>by rw[hc];exact h.v j v hv,fun j hj=>by rw[hc,hf];exact h.vt j hj,h.hN,h.hV,h.h2⟩
theorem Mx.set{w wr:World}{st ws rs vl:List Int}{N V:Nat}(h:Mx w wr st ws rs vl N V)(i:Nat)(x:Int):Mx w (wr.setCell ⟨V,i,none⟩ (.int .u32 x)) st ws rs (vl.set i x) N V:=by
 have hN:=h.hN;have hV:=h.hV;have h2:=h.h2;refine⟨by rw[IK];exact h.vlen,h.below.setCell (by show w.heap.size<=V;omega) _,Y1 h.st (by show V≠_;omega) _,QM h.res _ _,Y1 h.ws (by show V≠_;omega) _,Y1 h.rs (by show V≠_;omega) _,?_,QM h.vt _ _,hN,hV,h2⟩
 have:=YG h.v i (.int .u32 x)
 rwa [Lo,Qfe] at this
structure M1(w W:World)(st ws rs:List Int)(N:Nat):Prop where
 below:Below w.heap.size w W
 st:W.rangeAt w.heap.size 0 (cW st)
 res:W.there (w.heap.size+1) 0 8
 ws:W.rangeAt N 0 (cW ws)
 rs:W.rangeAt 1 0 (cW rs)
 hN:w.heap.size+2<=N
 hV:N<W.heap.size
 h2:1<w.heap.size
theorem M1.start{w w':World}{st ws rs:List Int}{t1 t2 t3:TypeId}{z:Array Value}(hz:z.size=8){z2:Array Value}(hz2:z2.size=64)(hwl:ws.length=64)(hrl:rs.length=64)
  (hr:w.rangeAt 1 0 (cW rs))
  (hb:Below ((w.alloc (.cells (cW st).toArray t1)).alloc (.cells z t2)).heap.size ((w.alloc (.cells (cW st).toArray t1)).alloc (.cells z t2)) w') :
  M1 w ((w'.alloc (.cells z2 t3)).setCells w'.heap.size 0 (cW ws)) st ws rs w'.heap.size:=by
 have hlt:1<w.heap.size:=QI hr (by intro h;have:=LW List.length h;simp[Qn,hrl] at this)
 have hN:w.heap.size+2<=w'.heap.size:=by have:=hb.size;simp at this;omega
 have hbw2:Below w.heap.size w w':=(((Lb _ _).alloc (La _) _).alloc (by simp) _).trans (hb.mono (by simp;omega))
 have h1:w'.rangeAt w.heap.size 0 (cW st):=Qm hb (by simp;omega) (World.rangeAt_alloc (Qp _ _ _) _)
 have h2:w'.there (w.heap.size+1) 0 8:=by
  have:=Qo (w.alloc (.cells (cW st).toArray t1)) z t2 8 (by omega)
  simp only[World.size_alloc] at this;exact Q3 hb (by simp) this
 have h3:w'.rangeAt 1 0 (cW rs):=Qm hbw2 hlt hr;have hw:((w'.alloc (.cells z2 t3)).setCells w'.heap.size 0 (cW ws)).rangeAt w'.heap.size 0 (cW ws):=World.rangeAt_setCells_same _ _ _ _ (Qo _ _ _ _ (by rw[Qn,hwl,hz2];exact La _))
 refine⟨Qq (hbw2.alloc (by omega) _) (by omega) _ _,?_,?_,hw,?_,hN,?_,hlt⟩
 ·exact World.rangeAt_setCells_apart (World.rangeAt_alloc h1 _) _ _ _ (Or.inl (by omega))
 ·exact World.there_setCells (World.there_alloc h2 _) _ _ _
 ·exact World.rangeAt_setCells_apart (World.rangeAt_alloc h3 _) _ _ _ (Or.inl (by omega))
 ·exact QI hw (by intro h;have:=LW List.length h;simp[Qn,hwl] at this)
theorem Mx.start{w W:World}{st ws rs:List Int}{N:Nat}(h:M1 w W st ws rs N)(hst:st.length=8)(t:TypeId):Mx w (W.alloc (.cells (cW st).toArray t)) st ws rs st N W.heap.size :=
 ⟨hst,h.below.alloc h.below.size _,World.rangeAt_alloc h.st _,World.there_alloc h.res _,World.rangeAt_alloc h.ws _,World.rangeAt_alloc h.rs _,Qp _ _ _,Qo _ _ _ _ (by simp[Qn,hst]),h.hN,h.hV,h.h2⟩
theorem QhT(st:List Int)(hst:st.length=8)(b:BA)(hb:b.size=64)(w:World)(rs:List Int)(hrl:rs.length=64)(hr:w.rangeAt 1 0 (cW rs)) :
  Calls prog 282 #[.agg (cW st).toArray,.string b] w fun e w'=>e= .returned (.agg (cW (YN rs st (tB b))).toArray)∧Below w.heap.size w w':=by
 obtain⟨s0,s1,s2,s3,s4,s5,s6,s7,rfl⟩:=Qbs hst;clear hst;obtain⟨ws,hws⟩:∃ws,ws=Yd (tB b) 48:=⟨_,rfl⟩;have hwl:ws.length=64:=by rw[hws,OZ]
 have hplan:=fun w=>QkJ b hb w
 rw[Qni (Qlh b),<-hws] at hplan;have HE:Hid (ws=Yd (tB b) 48):=hws;clear hws;have hsz:(cW ws).toArray.size=64:=by simp[Qn,hwl]
 have hi46:(prog.info? 403).map (·.size)=some (cW ws).toArray.size:=by rw[hsz];exact Qdw
 go_enter func282,ntmps282
 go_upto_region 2 with (first|(go_at_call 363;refine(hplan _).mono ?_;rintro e w' ⟨rfl,hbw⟩)|(refine wpList_store_mid rfl 403 _ _ rfl _ 0 (cW ws).toArray rfl rfl ?_ hi46 (all_oneCell_toArray (Uj ws)) ?_;exact Qo _ _ _ _ (by rw[hsz];exact La 64)))
 go_simp
 have hM:M1 w ((w'.alloc (.cells Za 403)).setCells w'.heap.size 0 (cW ws)) [s0,s1,s2,s3,s4,s5,s6,s7] ws rs w'.heap.size:=M1.start (z2:=(cW (List.replicate 64 0)).toArray) (z:=(cW [0,0,0,0,0,0,0,0]).toArray) rfl rfl hwl hrl hr hbw;clear hbw hplan;generalize ((w'.alloc (.cells Za 403)).setCells w'.heap.size 0 (cW ws))=W2 at *;generalize w'.heap.size=N at *;clear w';have c0:W2.cell? ⟨w.heap.size,0,none⟩=some (.int .u32 s0):=Qc hM.st (i:=0) (by simp)
 have c1:W2.cell? ⟨w.heap.size,1,none⟩=some (.int .u32 s1):=Qc hM.st (i:=1) (by simp)
 have c2:W2.cell? ⟨w.heap.size,2,none⟩=some (.int .u32 s2):=Qc hM.st (i:=2) (by simp)
 have c3:W2.cell? ⟨w.heap.size,3,none⟩=some (.int .u32 s3):=Qc hM.st (i:=3) (by simp)
 have c4:W2.cell? ⟨w.heap.size,4,none⟩=some (.int .u32 s4):=Qc hM.st (i:=4) (by simp)
 have c5:W2.cell? ⟨w.heap.size,5,none⟩=some (.int .u32 s5):=Qc hM.st (i:=5) (by simp)
 have c6:W2.cell? ⟨w.heap.size,6,none⟩=some (.int .u32 s6):=Qc hM.st (i:=6) (by simp)
 have c7:W2.cell? ⟨w.heap.size,7,none⟩=some (.int .u32 s7):=Qc hM.st (i:=7) (by simp)
 have hX:Mx w (W2.alloc (.cells (cW [s0,s1,s2,s3,s4,s5,s6,s7]).toArray 346)) [s0,s1,s2,s3,s4,s5,s6,s7] ws rs [s0,s1,s2,s3,s4,s5,s6,s7] N W2.heap.size:=Mx.start hM rfl 346;replace hX:Mx w (W2.alloc (.cells #[.int .u32 s0,.int .u32 s1,.int .u32 s2,.int .u32 s3,.int .u32 s4,.int .u32 s5,.int .u32 s6,.int .u32 s7] 346)) [s0,s1,s2,s3,s4,s5,s6,s7] ws rs [s0,s1,s2,s3,s4,s5,s6,s7] N W2.heap.size:=hX;clear hM;go_wp2;clear c0 c1 c2 c3 c4 c5 c6 c7;generalize W2.alloc (.cells #[.int .u32 s0,.int .u32 s1,.int .u32 s2,.int .u32 s3,.int .u32 s4,.int .u32 s5,.int .u32 s6,.int .u32 s7] 346)=W3 at *;generalize W2.heap.size=V at *;clear W2
 go_loopg [7] 64 (fun g i wr=> ∃(k:Nat) (v:S8),k<=64∧g=64-k∧i= .int .i64 k∧Hid (v=rnds (UF [s0,s1,s2,s3,s4,s5,s6,s7]) rs ws k)∧Mx w wr [s0,s1,s2,s3,s4,s5,s6,s7] ws rs (l8 v) N V)
 case atStart=>go_light;exact⟨0,UF [s0,s1,s2,s3,s4,s5,s6,s7],Ln _,rfl,rfl,rfl,hX⟩
 case round=>
  clear hX;obtain⟨k,v,hk,rfl,rfl,hv,hX⟩:=hrel
  by_cases hlt:k<64
  ·have hk0:(0:Int)<=(k:Int):=Lh _;have hk8:(k:Int)<64:=by omega
   obtain⟨a,b',c,d,e,f,g,gh⟩:=v;have cr:=Qc hX.rs (i:=k) (by omega)
   have cw:=Qc hX.ws (i:=k) (by omega)
   have c0:wr.cell? ⟨V,0,none⟩=some (.int .u32 a):=Qc hX.v (i:=0) (by simp[l8])
   have c1:wr.cell? ⟨V,1,none⟩=some (.int .u32 b'):=Qc hX.v (i:=1) (by simp[l8])
   have c2:wr.cell? ⟨V,2,none⟩=some (.int .u32 c):=Qc hX.v (i:=2) (by simp[l8])
   have c3:wr.cell? ⟨V,3,none⟩=some (.int .u32 d):=Qc hX.v (i:=3) (by simp[l8])
   have c4:wr.cell? ⟨V,4,none⟩=some (.int .u32 e):=Qc hX.v (i:=4) (by simp[l8])
   have c5:wr.cell? ⟨V,5,none⟩=some (.int .u32 f):=Qc hX.v (i:=5) (by simp[l8])
   have c6:wr.cell? ⟨V,6,none⟩=some (.int .u32 g):=Qc hX.v (i:=6) (by simp[l8])
   have c7:wr.cell? ⟨V,7,none⟩=some (.int .u32 gh):=Qc hX.v (i:=7) (by simp[l8])
   have f0:wr.frozen? ⟨V,0,none⟩=false:=by have:=(hX.vt 0 (by decide)).2;rwa [Lo] at this
   have f1:wr.frozen? ⟨V,1,none⟩=false:=by have:=(hX.vt 1 (by decide)).2;rwa [Lo] at this
   have f2:wr.frozen? ⟨V,2,none⟩=false:=by have:=(hX.vt 2 (by decide)).2;rwa [Lo] at this
   have f3:wr.frozen? ⟨V,3,none⟩=false:=by have:=(hX.vt 3 (by decide)).2;rwa [Lo] at this
   have f4:wr.frozen? ⟨V,4,none⟩=false:=by have:=(hX.vt 4 (by decide)).2;rwa [Lo] at this
   have f5:wr.frozen? ⟨V,5,none⟩=false:=by have:=(hX.vt 5 (by decide)).2;rwa [Lo] at this
   have f6:wr.frozen? ⟨V,6,none⟩=false:=by have:=(hX.vt 6 (by decide)).2;rwa [Lo] at this
   have f7:wr.frozen? ⟨V,7,none⟩=false:=by have:=(hX.vt 7 (by decide)).2;rwa [Lo] at this
   have HX:Hid (∀x0 x1 x2 x3 x4 x5 x6 x7,Mx w ((((((((wr.setCell ⟨V,0,none⟩ (.int .u32 x0)).setCell ⟨V,1,none⟩ (.int .u32 x1)).setCell ⟨V,2,none⟩ (.int .u32 x2)).setCell ⟨V,3,none⟩ (.int .u32 x3)).setCell ⟨V,4,none⟩ (.int .u32 x4)).setCell ⟨V,5,none⟩ (.int .u32 x5)).setCell ⟨V,6,none⟩ (.int .u32 x6)).setCell ⟨V,7,none⟩ (.int .u32 x7)) [s0,s1,s2,s3,s4,s5,s6,s7] ws rs [x0,x1,x2,x3,x4,x5,x6,x7] N V):=fun x0 x1 x2 x3 x4 x5 x6 x7=>((((((((hX.set 0 x0).set 1 x1).set 2 x2).set 3 x3).set 4 x4).set 5 x5).set 6 x6).set 7 x7)
   have HV:Hid (∀v',v'=S8.rnd ⟨a,b',c,d,e,f,g,gh⟩ (rs.getD k 0) (ws.getD k 0)->v'=rnds (UF [s0,s1,s2,s3,s4,s5,s6,s7]) rs ws (k+1)):=fun v' h=>by
    rw[h,show S8.mk a b' c d e f g gh=_ from hv];rfl
   clear hX hv;generalize rs.getD k 0=r at *;generalize ws.getD k 0=x at *;go_wp2
   go_region_held3 (fun w'=>w'.cell? ⟨1,k,none⟩=some (.int .u32 r)∧w'.cell? ⟨N,k,none⟩=some (.int .u32 x)∧w'.cell? ⟨V,4,none⟩=some (.int .u32 e)∧w'.cell? ⟨V,5,none⟩=some (.int .u32 f)∧w'.cell? ⟨V,6,none⟩=some (.int .u32 g)∧w'.cell? ⟨V,7,none⟩=some (.int .u32 gh)) (first|assumption|(refine⟨?_,?_,?_,?_,?_,?_⟩ <;> assumption)) (first|(go_at_call 364;refine(QbN _ _ _ (by decide) (by decide)).mono ?_;rintro e w' ⟨rfl,q,rfl⟩))
   go_wp2
   go_region_held3 (fun w'=>w'.cell? ⟨V,0,none⟩=some (.int .u32 a)∧w'.cell? ⟨V,1,none⟩=some (.int .u32 b')∧w'.cell? ⟨V,2,none⟩=some (.int .u32 c)) (first|assumption|(refine⟨?_,?_,?_⟩ <;> assumption)) (first|(go_at_call 364;refine(QbN _ _ _ (by decide) (by decide)).mono ?_;rintro e w' ⟨rfl,q,rfl⟩))
   go_wp2
   go_roundg (64-(k+1))
   case rel=>
    go_light;refine⟨k+1,S8.rnd ⟨a,b',c,d,e,f,g,gh⟩ r x,by omega,rfl,by go_num,HV.out (S8.rnd ⟨a,b',c,d,e,f,g,gh⟩ r x) rfl,?_⟩
    simp only[l8,S8.rnd,QpJ,QpK];refine Mx.same (HX.out _ _ _ _ _ _ _ _) ?_ ?_ ?_ ?_
    all_goals rfl
   case measure=>go_light;omega
  ·obtain rfl:k=64:=by omega
   have HVF:Hid (YN rs [s0,s1,s2,s3,s4,s5,s6,s7] (tB b)=sumI (UF [s0,s1,s2,s3,s4,s5,s6,s7]) v):=by
    show _=_
    rw[show v=_ from hv,show ws=_ from HE];rfl
   clear hk hlt hv;go_wp2
   go_loopg [10] 8 (fun g i wr=> ∃k:Nat,k<=8∧g=8-k∧i= .int .i64 k∧Mx w wr [s0,s1,s2,s3,s4,s5,s6,s7] ws rs (addL (UF [s0,s1,s2,s3,s4,s5,s6,s7]) v k) N V)
   case atStart=>go_light;exact⟨0,Ln _,rfl,rfl,hX⟩
   case round=>
    clear hX;obtain⟨k,hk,rfl,rfl,hX⟩:=hrel
    by_cases hlt:k<8
    ·have hk0:(0:Int)<=(k:Int):=Lh _;have hk8:(k:Int)<8:=by omega
     have cv:=Qc hX.v (i:=k) (by rw[hX.vlen];omega)
     rw[Qha _ _ _ _ (La _)] at cv;have cs:wr.cell? ⟨w.heap.size,k,none⟩=some (.int .u32 ((l8 (UF [s0,s1,s2,s3,s4,s5,s6,s7])).getD k 0)):=Qc hX.st (i:=k) hlt;have fv:wr.frozen? ⟨V,k,none⟩=false:=by have:=(hX.vt k hlt).2;rwa [Lo] at this
     have HF:Hid (∀x,Mx w (wr.setCell ⟨V,k,none⟩ (.int .u32 x)) [s0,s1,s2,s3,s4,s5,s6,s7] ws rs ((addL (UF [s0,s1,s2,s3,s4,s5,s6,s7]) v k).set k x) N V):=fun x=>hX.set k x
     have HV:Hid (addL (UF [s0,s1,s2,s3,s4,s5,s6,s7]) v (k+1)=(addL (UF [s0,s1,s2,s3,s4,s5,s6,s7]) v k).set k (IntKind.u32.wrap ((l8 v).getD k 0+(l8 (UF [s0,s1,s2,s3,s4,s5,s6,s7])).getD k 0))):=rfl;clear hX;generalize (l8 v).getD k 0=x at *;generalize (l8 (UF [s0,s1,s2,s3,s4,s5,s6,s7])).getD k 0=y at *;go_wp2
     go_region
     all_goals
      go_wp2
      go_roundg (8-(k+1))
      case rel=>
       go_light;refine⟨k+1,by omega,rfl,by go_num,?_⟩
       rw[HV.out,IntKind.wrap_u32'];exact(HF.out _).same rfl rfl rfl rfl
      case measure=>go_light;omega
    ·obtain rfl:k=8:=by omega
     rw[QiG] at hX;have hvl:=hX.vlen;have hvr:=hX.v;have hi34:(prog.info? 346).map (·.size)=some (cW (sumI (UF [s0,s1,s2,s3,s4,s5,s6,s7]) v)).length:=Up;have hi34':(prog.info? 346).map (·.size)=some (cW (sumI (UF [s0,s1,s2,s3,s4,s5,s6,s7]) v)).toArray.size:=Up;have hres:wr.there (w.heap.size+1) 0 (cW (sumI (UF [s0,s1,s2,s3,s4,s5,s6,s7]) v)).toArray.size:=hX.res;have hbel:=hX.below;clear hX;generalize hE:sumI (UF [s0,s1,s2,s3,s4,s5,s6,s7]) v=F at *;have HF:Hid (YN rs [s0,s1,s2,s3,s4,s5,s6,s7] (tB b)=F):=HVF;clear hE HVF
     go_wp2_with (first|(refine wpList_load_mid rfl 346 _ rfl V 0 rfl (cW F) _ hvr underlying346 rfl hi34 ?_)|(refine wpList_store_mid rfl 346 _ _ rfl (w.heap.size+1) 0 (cW F).toArray rfl rfl hres hi34' (all_oneCell_toArray (Uj F)) ?_))
     refine LK (v := .agg (cW F).toArray) ?_ rfl ⟨by rw[HF.out],?_⟩
     ·refine Q9 results282 _ _ (w.heap.size+1) 0 (cW F) (.array 8 110) ?_ ?_ underlying346 rfl hi34
      ·rfl
      ·go_light
       simpa using World.rangeAt_setCells_same _ _ _ _ (by simpa using hres)
     ·go_light;exact Qq hbel (by omega) _ _
def tl(n:Int):Nat->List Int
 | 0=>[]
 | j+1=>(n/256^j%256)::tl n j
theorem Jh(n:Int)(j:Nat):(tl n j).length=j:=by
 induction j with
 | zero=>rfl
 | succ j ih=>simp[tl,ih]
theorem O2(n:Int)(j:Nat):Bytes (tl n j):=by
 induction j with
 | zero=>intro x hx;cases hx
 | succ j ih=>
  intro x hx
  rcases List.mem_cons.1 hx with rfl|hx
  ·omega
  ·exact ih x hx
structure Bg(w wr:World)(l:List Int)(K:Nat):Prop where
 len:l.length=K
 below:Below w.heap.size w wr
 out:wr.rangeAt w.heap.size 0 (cB l)
 outt:wr.there w.heap.size 0 K
theorem Bg.set{w wr:World}{l:List Int}{K:Nat}(h:Bg w wr l K)(m:Nat)(v:Int):Bg w (wr.setCell ⟨w.heap.size,m,none⟩ (.int .u8 v)) (l.set m v) K:=by
 refine⟨by rw[IK];exact h.len,h.below.setCell (La _) _,?_,QM h.outt _ _⟩
 have:=YG h.out m (.int .u8 v)
 rwa [Lo,Qfd] at this
theorem Qnd(K j:Nat)(n v:Int)(h:j<K):(List.replicate (K-j) 0++tl n j).set (K-1-j) v=List.replicate (K-(j+1)) 0++v::tl n j:=by
 obtain⟨m,rfl⟩:∃m,K=j+1+m:=⟨K-(j+1),by omega⟩
 rw[show j+1+m-j=m+1 by omega,show j+1+m-1-j=m by omega,show j+1+m-(j+1)=m by omega,List.replicate_succ',LH,Nf _ _ (by simp)]
 simp
theorem Qhq(w:World)(b K:Nat)(l:List Int)(hl:l.length=K)(h:w.rangeAt b 0 (cB l)):(convert 127 9 (.slice (Zp b) K K)).run prog w= .ok (.string (Q4 l)) w:=Qa6 w b l K hl h
theorem Qgi(n:Int)(h0:0<=n)(h64:n<18446744073709551616)(K:Nat)(hK:K<=8)
  (hmk:∀u:World,(Instr.makeSlice 127 (.int .i64 K) (.int .i64 K)).run prog u= .ok (.slice (Zp u.heap.size) K K) (u.alloc (.cells (cB (List.replicate K 0)).toArray 5))) (w:World) :
  Calls prog 281 #[.int .u64 n,.int .i64 K] w fun e w'=>e= .returned (.string (Q4 (tl n K)))∧Below w.heap.size w w':=by
 have hB0:Bg w (w.alloc (.cells (cB (List.replicate K 0)).toArray 5)) (List.replicate K 0) K :=
  ⟨by simp,(Lb _ _).alloc (La _) _,Qp _ _ _,Qo _ _ _ _ (by simp[Qu])⟩
 have k0:(0:Int)<=(K:Int):=Lh _;have k8:(K:Int)<=8:=by omega
 go_enter func281,ntmps281;go_wp2;generalize w.alloc (.cells (cB (List.replicate K 0)).toArray 5)=w1 at *;clear hmk
 go_loopg [0,6] K (fun g x i wr=> ∃j:Nat,j<=K∧g=K-j∧x= .int .u64 (n/256^j)∧i= .int .i64 ((K:Int)-1-(j:Int))∧Bg w wr (List.replicate (K-j) 0++tl n j) K)
 case atStart=>
  go_light;refine⟨0,Ln _,rfl,?_,?_,?_⟩
  ·simp
  ·simp
  ·simpa [tl] using hB0
 case round=>
  clear hB0;obtain⟨j,hj,rfl,rfl,rfl,hs⟩:=hrel;have hx0:0<=n/256^j:=Int.ediv_nonneg h0 (Int.pow_nonneg (by decide))
  have hx1:n/256^j<=n:=Int.ediv_le_self _ h0;have hx2:n/256^j<18446744073709551616:=by omega
  by_cases hlt:j<K
  ·obtain⟨m,hm⟩:∃m:Nat,j+m+1=K:=⟨K-1-j,by omega⟩
   have em:(K:Int)-1-(j:Int)=(m:Int):=by omega
   rw[em];have m0:(0:Int)<=(m:Int):=Lh _;have mK:(m:Int)<(K:Int):=by omega
   have m8:(m:Int)<=8:=by omega
   have cm:=Ym hs.out (i:=m) (by rw[hs.len];omega)
   have fm:wr.frozen? ⟨w.heap.size,m,none⟩=false:=by have:=(hs.outt m (by omega)).2;rwa [Lo] at this
   have HF:Hid (Bg w (wr.setCell ⟨w.heap.size,m,none⟩ (.int .u8 (n/256^j%256))) (List.replicate (K-(j+1)) 0++tl n (j+1)) K):=by
    have:=hs.set m (n/256^j%256)
    rwa [show m=K-1-j by omega,Qnd K j n _ hlt,<-show m=K-1-j by omega] at this
   have HD:Hid (n/256^j/256=n/256^(j+1)):=by
    show _=_
    rw[Int.pow_succ,Int.ediv_ediv_of_nonneg (Int.pow_nonneg (by decide))]
   have HM:Hid (j+m+1=K):=hm;clear hs hm em;generalize n/256^j=x at *;generalize (List.replicate (K-j) 0++tl n j).getD m 0=z at *;go_wp2
   go_roundg (K-(j+1))
   case rel=>
    go_light;refine⟨j+1,by omega,rfl,by rw[<-HD.out],?_,HF.out⟩
    have:=HM.out;go_num
   case measure=>go_light;omega
  ·obtain rfl:j=K:=by omega
   have em:(j:Int)-1-(j:Int) = -1:=by omega
   rw[em];have hs2:=hs.out;rw[NH,List.replicate_zero,Ny] at hs2;have hcv:=Qhq wr w.heap.size j (tl n j) (Jh _ _) hs2;have HB:Hid (Below w.heap.size w wr):=hs.below;clear hs hs2;go_wp2
   go_ret
   exact⟨rfl,HB.out⟩
theorem big8(n:Int)(h0:0<=n)(h64:n<18446744073709551616)(w:World) :
  Calls prog 281 #[.int .u64 n,.int .i64 8] w fun e w'=>e= .returned (.string (Q4 (tl n 8)))∧Below w.heap.size w w':=Qgi n h0 h64 8 (by decide) (fun u=>by kernel_rfl) w
theorem big4(n:Int)(h0:0<=n)(h64:n<18446744073709551616)(w:World) :
  Calls prog 281 #[.int .u64 n,.int .i64 4] w fun e w'=>e= .returned (.string (Q4 (tl n 4)))∧Below w.heap.size w w':=Qgi n h0 h64 4 (by decide) (fun u=>by kernel_rfl) w
theorem Qhz(l:List Int)(acc:BA):(l.foldl (fun r n=>r.push (UInt8.ofNat n.toNat)) acc).data.toList=acc.data.toList++l.map fun n=>UInt8.ofNat n.toNat:=by
 induction l generalizing acc with
 | nil=>simp
 | cons x r ih=>rw[List.foldl_cons,ih];simp[ByteArray.push]
theorem UZ(l:List Int):(Q4 l).data.toList=l.map fun n=>UInt8.ofNat n.toNat:=by
 rw[Q4,Qhz];rfl
theorem JU{l:List Int}(h:Bytes l):tB (Q4 l)=l:=by
 rw[tB,UZ,I4]
 conv=>rhs;rw[<-List.map_id l]
 apply NE
 intro x hx;obtain⟨h0,h1⟩:=h x hx;obtain⟨n,rfl⟩:=NS h0;simp;omega
theorem Qnu(s:BA):Q4 (tB s)=s:=by
 have:(Q4 (tB s)).data.toList=s.data.toList:=by
  rw[UZ,tB,I4]
  conv=>rhs;rw[<-List.map_id s.data.toList]
  apply NE
  intro x _;simp
 cases s with
 | mk d=>
  cases h:Q4 (tB ⟨d⟩) with
  | mk d'=>
   rw[h] at this;simp only at this;rw[Array.toList_inj.1 this]
def msg(t:List Int)(z:Nat):List Int:=(t++(128::List.replicate z 0))++tl (8*(t.length:Int)) 8
theorem Qei{l:List Int}(h:l.length=64)(b:Int):Y7 l b 8=l.take 56++tl b 8:=by
 obtain⟨s0,s1,s2,s3,s4,s5,s6,s7,hd⟩:=Qbs (st:=l.drop 56) (by simp[h])
 have e:l=l.take 56++[s0,s1,s2,s3,s4,s5,s6,s7]:=by rw[<-hd,NA]
 have hA:(l.take 56).length=56:=by simp[h]
 generalize l.take 56=A at *;subst e;simp only[Y7,tl,IntKind.wrap_u8'];rw[Nf _ _ (by omega),Nf _ _ (by omega),Nf _ _ (by omega),Nf _ _ (by omega),Nf _ _ (by omega),Nf _ _ (by omega),Nf _ _ (by omega),Nf _ _ (by omega),hA]
 congr 1
theorem Qiq(A:List Int)(h:A.length=56)(B:List Int):(A++B).take 56=A:=by
 rw[LG (by omega),Lr (by omega)]
theorem QmG(rs t:List Int)(z:Nat)(hlt:t.length<1152921504606846976)(hz:(t.length+(z+1)+8)%64=0)(hz2:z<64) :
  stN rs IV (msg t z) ((msg t z).length/64)=Q7 rs (stN rs IV t (t.length/64)) (pad (t.drop (64*(t.length/64)))) t.length:=by
 have hml:(msg t z).length=t.length+(z+1)+8:=by simp[msg,Jh];omega
 have hb8:IntKind.u64.wrap ((t.length:Int)*8)=8*(t.length:Int):=by
  simp[IntKind.wrap,IntKind.bits,IntKind.signed];omega
 have hdl:(t.drop (64*(t.length/64))).length=t.length%64:=by rw[LS];omega
 have hpl:(pad (t.drop (64*(t.length/64)))).length=64:=Ud (by omega)
 have hpt:(pad (t.drop (64*(t.length/64)))).take (t.length%64)=t.drop (64*(t.length/64)):=by
  rw[pad,LG (by omega),Lr (by omega)]
 have hdrop:∀q,q=t.length/64->(msg t z).drop (64*q)=(t.drop (64*q)++(128::List.replicate z 0))++tl (8*(t.length:Int)) 8:=fun q hq=>by
  unfold msg;rw[L9 (by simp;omega),L9 (by omega)]
 have hpre:stN rs IV (msg t z) (t.length/64)=stN rs IV t (t.length/64):=by
  unfold msg;rw[LH,Of _ _ _ _ _ (by omega)]
 unfold Q7;rw[hb8];have hend:Jm (pad (t.drop (64*(t.length/64)))) (t.length%64)=(t.drop (64*(t.length/64))++[128])++List.replicate (64-(t.length%64+1)) 0:=by
  rw[QcF hpl (Iu _ (by decide)),hpt]
 by_cases h55:55<t.length%64
 ·rw[Lm h55];have hq:(msg t z).length/64=t.length/64+1+1:=by omega
  have hzz:z=(64-(t.length%64+1))+56:=by omega
  rw[hq,stN,stN,hpre,hdrop _ rfl,hend,Qei (by simp)]
  have e1:((t.drop (64*(t.length/64))++(128::List.replicate z 0))++tl (8*(t.length:Int)) 8).take 64=(t.drop (64*(t.length/64))++[128])++List.replicate (64-(t.length%64+1)) 0:=by
   rw[hzz,<-NP];have:t.drop (64*(t.length/64))++(128::(List.replicate (64-(t.length%64+1)) 0++List.replicate 56 0))++tl (8*(t.length:Int)) 8=((t.drop (64*(t.length/64))++[128])++List.replicate (64-(t.length%64+1)) 0)++(List.replicate 56 0++tl (8*(t.length:Int)) 8):=by simp
   rw[this,LG (by simp;omega),Lr (by simp;omega)]
  have e2:((msg t z).drop (64*(t.length/64+1))).take 64=(List.replicate 64 (0:Int)).take 56++tl (8*(t.length:Int)) 8:=by
   have hd2:(msg t z).drop (64*(t.length/64+1))=((msg t z).drop (64*(t.length/64))).drop 64:=by rw[WA];congr 1
   rw[hd2,hdrop _ rfl,hzz,<-NP];have:t.drop (64*(t.length/64))++(128::(List.replicate (64-(t.length%64+1)) 0++List.replicate 56 0))++tl (8*(t.length:Int)) 8=((t.drop (64*(t.length/64))++[128])++List.replicate (64-(t.length%64+1)) 0)++(List.replicate 56 0++tl (8*(t.length:Int)) 8):=by simp
   rw[this,L9 (by simp;omega),Nk (by simp;omega),Ny,Lr (by simp[Jh])]
   simp
  rw[e1,e2]
 ·rw[Ld h55];have hq:(msg t z).length/64=t.length/64+1:=by omega
  have hzz:z=55-t.length%64:=by omega
  rw[hq,stN,hpre,hdrop _ rfl,hend,Qei (by simp;omega)]
  congr 1
  rw[Lr (by simp[Jh];omega)]
  congr 1
  have:(t.drop (64*(t.length/64))++[128])++List.replicate (64-(t.length%64+1)) 0=(t.drop (64*(t.length/64))++(128::List.replicate z 0))++List.replicate 8 0:=by
   rw[show 64-(t.length%64+1)=z+8 by omega,<-NP];simp
  rw[this,Qiq _ (by simp;omega)]
def outR(H:List Int):Nat->List Int
 | 0=>[]
 | k+1=>outR H k++tl (H.getD k 0) 4
theorem QmV(H:List Int)(k:Nat):outR H k=UV H k:=by
 induction k with
 | zero=>rfl
 | succ k ih=>
  rw[outR,UV,ih];simp[tl,w4,IntKind.wrap_u8']
theorem JT(a b:BA):tB (a++b)=tB a++tB b:=by simp[tB]
theorem Qpx:(prog.info? 5).map (fun i=>(i.zero,i.size,i.bytes))=some (some (.int .u8 0),1,1):=by kernel_rfl
theorem Qi5(w:World)(b:Nat)(l:List Int)(n cap:Nat)(hl:l.length=n)(h:w.rangeAt b 0 (cB l)):(convert 127 9 (.slice (Zp b) n cap)).run prog w= .ok (.string (Q4 l)) w:=by
 subst hl;rw[run_convert_bytes_string w 127 9 5 _ _ _ underlying127 underlying5 underlying9];refine run_bytesToString w ⟨b,0,none⟩ l.length cap l ?_
 have:=run_loadCells_list (P:=prog) w ⟨b,0,none⟩ (cB l) (fun j v hv=>by rw[Addr.add_mid];exact h j v hv)
 rwa [Qu] at this
theorem QbB{w:World}{base g n cap:Nat}{l:List Int}(h:w.ownsRow base 5 1 (.slice (Zp g) n cap) n (cB l)):w.rangeAt g 0 (cB l)∧base<=g:=by
 obtain⟨h1,h2⟩:=h
 rcases h2 with ⟨h2,_⟩|⟨g',cap',cur,hv,hg,hh,hn,hc,hs,ht⟩
 ·cases h2
 ·injection hv with e1 e2 e3
  injection e1 with e1
  injection e1 with e1
  subst e1;refine⟨fun j v hj=> ?_,hg⟩
  rw[Lo,cell_of_row w g j cur 5 (0,0) hh];rw[<-ht,Nb] at hj
  split at hj
  ·simpa using hj
  ·cases hj
theorem Qh3{w:World}{base n:Nat}{v:Value}{xs:List Value}(h:w.ownsRow base 5 1 v n xs)(hn:0<n):∃g cap,v= .slice (Zp g) n cap∧base<=g:=by
 obtain⟨h1,h2⟩:=h
 rcases h2 with ⟨_,h2⟩|⟨g,cap,cur,hv,hg,_⟩
 ·omega
 ·exact⟨g,cap,hv,hg⟩
theorem Qb5(z:Nat):Bytes (128::List.replicate z 0):=by
 intro x hx
 rcases List.mem_cons.1 hx with rfl|hx
 ·omega
 ·rw[List.eq_of_mem_replicate hx];omega
theorem JZ{w w2:World}{B:Nat}(h:Below w.drew.heap.size w.drew w2)(hB:B<=w.heap.size):Below B w w2 :=
 ⟨h.os,h.tape,h.output,h.size,fun k hk=>h.block k (Lv hk hB)⟩
theorem Qli(r:BA)(p q:Nat):tB (r.extract p q)=((tB r).drop p).take (q-p):=by
 have:(r.extract p q).data.toList=(r.data.toList.drop p).take (q-p):=by
  rw[Io];simp[Array.toList_extract,List.extract]
 rw[tB,this,tB,NN,Ih]
theorem Qkr(H:List Int)(m:Nat):(outR H m).length=4*m:=by
 induction m with
 | zero=>rfl
 | succ m ih=>rw[outR,Le,ih,Jh];omega
theorem Qly(x:Int):0<=IntKind.u32.wrap x∧IntKind.u32.wrap x<4294967296:=by rw[IntKind.wrap_u32'];omega
theorem Qlt{l:List Int}(h:∀x∈l,0<=x∧x<4294967296)(i:Nat):0<=l.getD i 0∧l.getD i 0<4294967296:=by
 rw[Lc]
 cases e:l[i]? with
 | none=>exact⟨by decide,by decide⟩
 | some x=>exact h x (Nt e)
theorem Qnr(rs t:List Int)(k i:Nat):0<=(stN rs IV t k).getD i 0∧(stN rs IV t k).getD i 0<4294967296:=by
 refine Qlt (fun x hx=> ?_) i
 cases k with
 | zero=>simp[stN,IV] at hx;omega
 | succ k=>
  rw[stN,YN,sumI] at hx;simp only[List.mem_cons,List.not_mem_nil,or_false] at hx
  rcases hx with rfl|rfl|rfl|rfl|rfl|rfl|rfl|rfl <;> exact Qly _
theorem Qe4{x:Int}(h0:0<=x)(h1:x<4294967296):IntKind.u64.wrap x=x:=by
 simp[IntKind.wrap,IntKind.bits,IntKind.signed];omega
theorem Qo3{w:World}{g:Nat}{o:Obj}(h:w.heap[g]? = some o):g<w.heap.size:=by
 rcases IU g w.heap.size with h'|h'
 ·exact h'
 ·rw[Array.getElem?_eq_none h'] at h;cases h
theorem endz(L:Nat):∃z,z<64∧(L+(z+1)+8)%64=0:=⟨(64-(L+9)%64)%64,by omega,by omega⟩
theorem Qif(w:World)(ao:OA)(b off len cap:Nat)(ss:LB)(hl:ss.length=len)(hao:0<len->ao=some ⟨b,off,none⟩)(hs:w.rangeAt b off (ss.map Value.string))
  (hmx:len<=1048576) (rs:List Int) (hrl:rs.length=64) (hr:w.rangeAt 1 0 (cW rs)) (hiv:w.rangeAt 0 0 (cW IV)) (hlen:(Qk ss).length<1152921504606846976) :
  Calls prog 186 #[.slice ao len cap] w fun e w'=>e= .returned (.string (O1 rs (Qk ss)))∧Below w.heap.size w w':=by
 have h2w:1<w.heap.size:=QI hr (by intro h;have:=LW List.length h;simp[Qn,hrl] at this)
 have h0w:Hid (0<w.heap.size):=QI hiv (by intro h;cases h)
 go_enter func186,ntmps186;go_wp2
 go_loopg [3,4] len (fun g x i wx=>w=wx ∧ ∃(k:Nat) (text:BA),k<=len∧g=len-k∧x= .string text∧i= .int .i64 k∧Hid (tB text=Qk (ss.take k)))
 case atStart=>go_light;exact⟨rfl,0,_,Ln _,rfl,rfl,rfl,rfl⟩
 case round=>
  obtain⟨rfl,k,text,hk,rfl,rfl,rfl,HT⟩:=hrel
  by_cases hlt:k<len
  ·obtain rfl:=hao (by omega)
   have hk':k<ss.length:=by omega
   have ck:w.cell? ⟨b,off+k,none⟩=some (.string (ss.getD k ByteArray.empty)) :=
    hs k _ (by simp[List.getElem?_eq_getElem hk',List.getD_eq_getElem?_getD])
   have hz:(k:Int)<(len:Int):=by omega
   have hfs:=UP ss k hk';have hsz:(Qk (ss.take (k+1))).length<=(Qk ss).length:=OB _ _;have hts:text.size=(Qk (ss.take k)).length:=by rw[<-Yq,HT.out]
   have hns:¬(9223372036854775807<text.size+(ss.getD k ByteArray.empty).size):=by
    rw[hfs,Le,Yq] at hsz;omega
   have HF:Hid (tB (text++ss.getD k ByteArray.empty)=Qk (ss.take (k+1))):=by
    show _=_
    rw[JT,HT.out,hfs]
   clear hfs hsz hts;generalize ss.getD k ByteArray.empty=part at *;go_wp2
   go_roundg (len-(k+1))
   case rel=>go_light;exact⟨rfl,k+1,_,by omega,rfl,rfl,by go_num,HF.out⟩
   case measure=>go_light;omega
  ·obtain rfl:k=len:=by omega
   have hz:¬(k:Int)<(k:Int):=by omega
   have hT:=HT.out;rw[Lr (by omega)] at hT
   have hts:text.size=(Qk ss).length:=by rw[<-Yq,hT]
   have HTT:Hid (tB text=Qk ss):=hT;clear hT HT hs hao hl;obtain⟨zN,hz1,hz2⟩:=endz text.size;obtain⟨i0,hi,hz0,hzz1,hzz2⟩:=info_parts Qpx;have hO0:(w.alloc (.cells #[.int .u8 128] 5)).ownsRow w.heap.size 5 1 (.slice (Zp w.heap.size) 1 1) 1 (cB (128::List.replicate 0 0)) :=
    ⟨rfl,Or.inr ⟨w.heap.size,1,#[.int .u8 128],rfl,La _,Lt _ _,La _,by unfold maxLen;omega,rfl,rfl⟩⟩
   have hb0:Below w.heap.size w (w.alloc (.cells #[.int .u8 128] 5)):=(Lb _ _).alloc (La _) _;have HZ:Hid (zN<64∧(text.size+(zN+1)+8)%64=0):=⟨hz1,hz2⟩;have ht63:(text.size:Int)<1152921504606846976:=by omega
   have ht0:(0:Int)<=(text.size:Int):=Lh _;have HTS:Hid (text.size=(Qk ss).length):=hts;clear hz1 hz2 hts
   go_upto_region 7 with (fail)
   generalize w.alloc (.cells #[.int .u8 128] 5)=w1 at *
   go_loopg [5] zN (fun g v wi=> ∃(z n g' cap':Nat),n=z+1∧z<=zN∧g=zN-z∧v= .slice (Zp g') n cap'∧wi.ownsRow w.heap.size 5 1 v n (cB (128::List.replicate z 0))∧Below w.heap.size w wi)
   case atStart=>go_light;exact⟨0,1,_,_,rfl,Ln _,rfl,rfl,hO0,hb0⟩
   case round=>
    clear hO0 hb0;obtain⟨z,n,g',cap',hnz,hzl,rfl,rfl,hO,hb⟩:=hrel;obtain⟨s1,hs1⟩:∃s1:Nat,text.size+n=s1:=⟨_,rfl⟩;obtain⟨s2,hs2⟩:∃s2:Nat,s1+8=s2:=⟨_,rfl⟩;have hZ:=HZ.out;have e1:IntKind.i64.wrap ((text.size:Int)+(n:Int))=(s1:Int):=by rw[Q6 _ (by omega) (by omega)];omega
    have e2:IntKind.i64.wrap ((s1:Int)+8)=(s2:Int):=by rw[Q6 _ (by omega) (by omega)];omega
    have b2:(0:Int)<=(s2:Int):=Lh _;have HN:Hid (n=z+1∧z<=zN∧text.size+n=s1∧s1+8=s2):=⟨hnz,hzl,hs1,hs2⟩;have hn64:n<=64:=by omega
    by_cases hne:z<zN
    ·have hm:((s2:Int)%64 == 0)=false:=by rw[beq_eq_false_iff_ne];omega
     have HLT:Hid (z<zN):=hne;have HG:Hid (w.heap.size<=g'):=(QbB hO).2;clear hZ hnz hzl hs1 hs2 ht63 ht0 hne;have hbs:w.heap.size<=wr.heap.size:=hb.size;have HO:Hid (∀o,(wr.alloc o).ownsRow w.heap.size 5 1 (.slice (Zp g') n cap') n (cB (128::List.replicate z 0))):=fun o=>by
      obtain⟨h1,h2⟩:=hO;refine⟨h1,?_⟩
      rcases h2 with ⟨h2,_⟩|⟨g,cp,cur,hv,hg,hh,r⟩
      ·cases h2
      ·exact Or.inr ⟨g,cp,cur,hv,hg,by rw[Below.heap_alloc _ _ _ (Qo3 hh)];exact hh,r⟩
     have Hb:Hid (∀o,Below w.heap.size w (wr.alloc o)):=fun o=>hb.alloc hb.size o
     have hby:Hid ((n+1)*1<=140737488355328):=by show _<=_;omega
     have hmx2:Hid (n+1<=maxLen):=by show _<=_;unfold maxLen;omega
     clear hO hb
     go_upto_region 8 with (fail)
     go_wp2_with (at_builtin;(refine wpList_append_own _ rfl _ _ 127 rfl w.heap.size 5 i0 (.int .u8 0) 1 1 underlying127 hi hz0 hzz1 hzz2 rfl (by decide) _ _ _ rfl (HO.out _) ⟨wr.heap.size,0,none⟩ 1 1 [.int .u8 0] rfl rfl (cell_one_new _ _ _) (fun x hx=>by simp at hx;subst hx;rfl) hmx2.out hby.out (by simp;omega) ?_);intro v' w2 hown' hg' hne')
     obtain⟨g2,cap2,hv2,hgb⟩:=Qh3 hown' (Nat.succ_pos _);rw[hv2] at hown' ⊢;have HR:Hid (w2.ownsRow w.heap.size 5 1 (.slice (Zp g2) (n+1) cap2) (n+1) (cB (128::List.replicate (z+1) 0))):=by
      have e:cB (128::List.replicate z 0)++[Value.int IntKind.u8 0]=cB (128::List.replicate (z+1) 0):=by
       rw[List.replicate_succ'];simp[cB]
      rw[<-e];exact hown'
     have HB2:Hid (Below w.heap.size w w2):=(Hb.out _).grown hg' (by simp;omega) (fun j hj=>by cases hj;exact HG.out)
     clear hown' hg' hne' hv2
     go_roundg (zN-(z+1))
     case rel=>go_light;have:=HN.out;have:=HZ.out;exact⟨z+1,n+1,g2,cap2,by omega,by have:=HLT.out;omega,rfl,rfl,HR.out,HB2.out⟩
     case measure=>go_light;have:=HLT.out;omega
    ·have hzz:z=zN:=by omega
     subst hzz;have hm:((s2:Int)%64 == 0)=true:=by rw[beq_iff_eq];omega
     obtain⟨hrg,hgb⟩:=QbB hO;have hglt:g'<wr.heap.size:=QI hrg (by simp[cB])
     have HGB:Hid (w.heap.size<=g'):=hgb;have HBL:Hid (Below w.heap.size w wr):=hb;have hsz1:(Q4 (128::List.replicate z 0)).size=n:=by rw[<-Yq,JU (Qb5 z)];simp;omega
     have hcv:=fun w' h=>Qi5 w' g' (128::List.replicate z 0) n cap' (by simp;omega) h
     have hns:¬(9223372036854775807<text.size+n):=by omega
     have HKP:Hid (∀w',Below wr.drew.heap.size wr.drew w'->w'.rangeAt g' 0 (cB (128::List.replicate z 0))):=fun w' h=>Qm h hglt (by rw[World.rangeAt_drew];exact hrg)
     have hL8:IntKind.u64.wrap (8*IntKind.u64.wrap (text.size:Int))=8*(text.size:Int):=by
      simp[IntKind.wrap,IntKind.bits,IntKind.signed];omega
     have hbig:=fun w'=>big8 (8*(text.size:Int)) (by omega) (by omega) w'
     have hsz3:(Q4 (tl (8*(text.size:Int)) 8)).size=8:=by rw[<-Yq,JU (O2 _ _),Jh]
     have hns2:¬(9223372036854775807<text.size+n+8):=by omega
     clear hO hb hgb hZ hnz hzl hs1 hs2 ht63 ht0 hne
     go_upto_region 9 with (fail)
     go_region_held3 (fun w'=>w'.rangeAt g' 0 (cB (128::List.replicate z 0))) (first|assumption|(rw[World.rangeAt_drew];assumption)|(exact HKP.out _ (by assumption))) (first|(go_at_call 281;refine(hbig _).mono ?_;rintro e w2 ⟨rfl,hbw⟩))
     have HBA:Hid (Below w.heap.size w w2):=HBL.out.trans (JZ hbw HBL.out.size);generalize hall:(text++Q4 (128::List.replicate z 0))++Q4 (tl (8*(text.size:Int)) 8)=all at *;have HALL:Hid (tB all=msg (Qk ss) z):=by
      show _=_
      have e:=HTT.out;rw[<-hall,JT,JT,JU (Qb5 z),JU (O2 _ _),msg,e,HTS.out]
     clear hall hbw hbig hcv HKP hL8 hns hns2 hsz1 hsz3;have v0:w2.cell? ⟨0,0,none⟩=some (.int .u32 1779033703):=by rw[HBA.out.cell (p:=⟨0,0,none⟩) h0w.out];exact Qc hiv (i:=0) (by decide)
     have v1:w2.cell? ⟨0,1,none⟩=some (.int .u32 3144134277):=by rw[HBA.out.cell (p:=⟨0,1,none⟩) h0w.out];exact Qc hiv (i:=1) (by decide)
     have v2:w2.cell? ⟨0,2,none⟩=some (.int .u32 1013904242):=by rw[HBA.out.cell (p:=⟨0,2,none⟩) h0w.out];exact Qc hiv (i:=2) (by decide)
     have v3:w2.cell? ⟨0,3,none⟩=some (.int .u32 2773480762):=by rw[HBA.out.cell (p:=⟨0,3,none⟩) h0w.out];exact Qc hiv (i:=3) (by decide)
     have v4:w2.cell? ⟨0,4,none⟩=some (.int .u32 1359893119):=by rw[HBA.out.cell (p:=⟨0,4,none⟩) h0w.out];exact Qc hiv (i:=4) (by decide)
     have v5:w2.cell? ⟨0,5,none⟩=some (.int .u32 2600822924):=by rw[HBA.out.cell (p:=⟨0,5,none⟩) h0w.out];exact Qc hiv (i:=5) (by decide)
     have v6:w2.cell? ⟨0,6,none⟩=some (.int .u32 528734635):=by rw[HBA.out.cell (p:=⟨0,6,none⟩) h0w.out];exact Qc hiv (i:=6) (by decide)
     have v7:w2.cell? ⟨0,7,none⟩=some (.int .u32 1541459225):=by rw[HBA.out.cell (p:=⟨0,7,none⟩) h0w.out];exact Qc hiv (i:=7) (by decide)
     have HS0:Hid ((w2.alloc (.cells #[.int .u32 1779033703,.int .u32 3144134277,.int .u32 1013904242,.int .u32 2773480762,.int .u32 1359893119,.int .u32 2600822924,.int .u32 528734635,.int .u32 1541459225] 346)).rangeAt w2.heap.size 0 (cW (stN rs IV (tB all) 0))∧(w2.alloc (.cells #[.int .u32 1779033703,.int .u32 3144134277,.int .u32 1013904242,.int .u32 2773480762,.int .u32 1359893119,.int .u32 2600822924,.int .u32 528734635,.int .u32 1541459225] 346)).there w2.heap.size 0 8∧Below w.heap.size w (w2.alloc (.cells #[.int .u32 1779033703,.int .u32 3144134277,.int .u32 1013904242,.int .u32 2773480762,.int .u32 1359893119,.int .u32 2600822924,.int .u32 528734635,.int .u32 1541459225] 346))) :=
      ⟨Qp w2 (cW IV) 346,Qo w2 #[.int .u32 1779033703,.int .u32 3144134277,.int .u32 1013904242,.int .u32 2773480762,.int .u32 1359893119,.int .u32 2600822924,.int .u32 528734635,.int .u32 1541459225] 346 8 (by simp),HBA.out.alloc HBA.out.size _⟩
     have HSG:Hid (w.heap.size<=w2.heap.size):=HBA.out.size
     go_upto_region 11 with (fail)
     clear v0 v1 v2 v3 v4 v5 v6 v7;generalize w2.alloc (.cells #[.int .u32 1779033703,.int .u32 3144134277,.int .u32 1013904242,.int .u32 2773480762,.int .u32 1359893119,.int .u32 2600822924,.int .u32 528734635,.int .u32 1541459225] 346)=w3 at *;generalize w2.heap.size=Sg at *;obtain⟨nb,hnb⟩:∃nb,all.size=64*nb:=by
      have e:=LW List.length HALL.out;rw[Yq] at e;have hml:(msg (Qk ss) z).length=(Qk ss).length+(z+1)+8:=by simp[msg,Jh];omega
      have:=HZ.out.2;have:=HTS.out;exact⟨all.size/64,by omega⟩
     have hasz:all.size<2305843009213693952:=by
      have e:=LW List.length HALL.out;rw[Yq] at e;have hml:(msg (Qk ss) z).length=(Qk ss).length+(z+1)+8:=by simp[msg,Jh];omega
      have:=HZ.out.1;omega
     have HNB:Hid (all.size=64*nb∧all.size<2305843009213693952):=⟨hnb,hasz⟩;have HX:Hid (w.heap.size<=g'∧g'<wr.heap.size):=⟨HGB.out,hglt⟩;clear hnb hasz hglt hrg HBL HBA HGB e1 e2 b2 hn64 hm HN;go_wp2
     go_loopg [8] nb (fun g i wi=> ∃(j p:Nat),p=64*j∧j<=nb∧g=nb-j∧i= .int .i64 p∧wi.rangeAt Sg 0 (cW (stN rs IV (tB all) j))∧wi.there Sg 0 8∧Below w.heap.size w wi)
     case atStart=>go_light;exact⟨0,0,rfl,Ln _,rfl,rfl,HS0.out.1,HS0.out.2.1,HS0.out.2.2⟩
     case round=>
      clear HS0 HX;obtain⟨j,p,hp,hj,rfl,rfl,hst,htt,hb⟩:=hrel;have hN:=HNB.out
      by_cases hjl:j<nb
      ·obtain⟨q,hq⟩:∃q:Nat,p+64=q:=⟨_,rfl⟩;have eq1:IntKind.i64.wrap ((p:Int)+64)=(q:Int):=by rw[Q6 _ (by omega) (by omega)];omega
       have b0:(0:Int)<=(p:Int):=Lh _;have b1:(p:Int)<=(q:Int):=by omega
       have b2:(q:Int)<=(all.size:Int):=by omega
       have b3:(p:Int)<(all.size:Int):=by omega
       have hex:(all.extract p q).size=64:=by rw[ByteArray.size_extract];omega
       have hrr:wr.rangeAt 1 0 (cW rs):=Qm hb h2w hr;have hrd:wr.drew.rangeAt 1 0 (cW rs):=by rw[World.rangeAt_drew];exact hrr
       have hsl8:(stN rs IV (tB all) j).length=8:=Qdx rfl j;have HST:Hid (YN rs (stN rs IV (tB all) j) (tB (all.extract p q))=stN rs IV (tB all) (j+1)):=by
        show _=_
        rw[stN,Qli,hp]
        congr 2
        omega
       obtain⟨st,hste⟩:∃st,st=stN rs IV (tB all) j:=⟨_,rfl⟩;rw[<-hste] at hst hsl8 HST;clear hste;obtain⟨s0,s1,s2,s3,s4,s5,s6,s7,rfl⟩:=Qbs hsl8;have c0:wr.cell? ⟨Sg,0,none⟩=some (.int .u32 s0):=Qc hst (i:=0) (by simp)
       have c1:wr.cell? ⟨Sg,1,none⟩=some (.int .u32 s1):=Qc hst (i:=1) (by simp)
       have c2:wr.cell? ⟨Sg,2,none⟩=some (.int .u32 s2):=Qc hst (i:=2) (by simp)
       have c3:wr.cell? ⟨Sg,3,none⟩=some (.int .u32 s3):=Qc hst (i:=3) (by simp)
       have c4:wr.cell? ⟨Sg,4,none⟩=some (.int .u32 s4):=Qc hst (i:=4) (by simp)
       have c5:wr.cell? ⟨Sg,5,none⟩=some (.int .u32 s5):=Qc hst (i:=5) (by simp)
       have c6:wr.cell? ⟨Sg,6,none⟩=some (.int .u32 s6):=Qc hst (i:=6) (by simp)
       have c7:wr.cell? ⟨Sg,7,none⟩=some (.int .u32 s7):=Qc hst (i:=7) (by simp)
       have hmix:=fun w' h=>QhT [s0,s1,s2,s3,s4,s5,s6,s7] rfl (all.extract p q) hex w' rs hrl h
       rw[HST.out] at hmix;have hFl:(stN rs IV (tB all) (j+1)).length=8:=Qdx rfl _;generalize hFE:stN rs IV (tB all) (j+1)=F at *;have HFE:Hid (stN rs IV (tB all) (j+1)=F):=hFE;clear hFE;have hst34:∀w':World,w'.there Sg 0 8->(storeCells ⟨Sg,0,none⟩ (cW F)).run prog w'= .ok () (w'.setCells Sg 0 (cW F)):=fun w' h=>by
        have hl8:(cW F).length=8:=by rw[Qn,hFl]
        have:=run_storeCells_cells (P:=prog) Sg 0 (cW F) 0 w' (by rw[hl8];intro j hj;simpa using (h j hj).1) (by rw[hl8];intro j hj;simpa using (h j hj).2) (Uj F)
        simpa using this
       have hcl:(cW F).length=8:=by rw[Qn,hFl]
       have HK:Hid (∀w',Below wr.drew.heap.size wr.drew w'->w'.there Sg 0 8∧Below w.heap.size w w'):=fun w' h=>⟨Q3 h (JC htt (by decide)) (by rw[World.there_drew];exact htt),hb.trans (JZ h hb.size)⟩
       have HP:Hid (p=64*j∧p+64=q):=⟨hp,hq⟩;clear hp hq hst htt hb HST hN hsl8
       go_upto_region 14 with (fail)
       go_region_with (go_at_call 282;refine(hmix _ hrd).mono ?_;rintro e w4 ⟨rfl,hbw⟩;have hth4:=(HK.out _ hbw).1)
       have HW4:Hid (Below w.heap.size w w4):=(HK.out _ hbw).2;clear HK hbw;go_wp2
       go_roundg (nb-(j+1))
       case rel=>
        go_light;have:=HP.out;have:=HSG.out;refine⟨j+1,q,by omega,by omega,rfl,?_,?_,World.there_setCells hth4 _ _ _,Qq HW4.out HSG.out _ _⟩
        ·have:(p:Int)+64=(q:Int):=by omega
         first|rw[this]|rfl
        ·rw[HFE.out];exact World.rangeAt_setCells_same _ _ _ _ (by rw[hcl];exact hth4)
       case measure=>go_light;omega
      ·have hjn:j=nb:=by omega
       subst hjn;have hpa:¬((p:Int)<(all.size:Int)):=by omega
       have hHl:(stN rs IV (tB all) j).length=8:=Qdx rfl j;have hW32:∀i,0<=(stN rs IV (tB all) j).getD i 0∧(stN rs IV (tB all) j).getD i 0<4294967296:=fun i=>Qnr rs _ j i
       have HSUM:Hid (Q4 (UV (stN rs IV (tB all) j) 8)=O1 rs (Qk ss)):=by
        show _=_
        have e:=HALL.out;have hml:(msg (Qk ss) z).length=all.size:=by rw[<-e,Yq]
        have hz:=HZ.out;rw[HTS.out] at hz;have:=QmG rs (Qk ss) z hlen hz.2 hz.1;rw[hml,show all.size/64=j by omega] at this
        rw[e,this,O1,shaT]
       have HP:Hid (Sg<wr.heap.size):=JC htt (by decide)
       clear hp hj hN htt HNB HALL hjl;generalize stN rs IV (tB all) j=H at *;go_wp2
       go_loopg [9,10] 8 (fun g x i wi=> ∃(m:Nat) (out:BA),m<=8∧g=8-m∧x= .string out∧i= .int .i64 m∧Hid (tB out=outR H m)∧wi.rangeAt Sg 0 (cW H)∧Below w.heap.size w wi)
       case atStart=>go_light;exact⟨0,_,Ln _,rfl,rfl,rfl,rfl,hst,hb⟩
       case round=>
        clear hst hb HP;obtain⟨m,out,hm,rfl,rfl,rfl,HO,hst,hb⟩:=hrel;have hos:out.size=4*m:=by rw[<-Yq,HO.out,Qkr]
        by_cases hml:m<8
        ·have m0:(0:Int)<=(m:Int):=Lh _;have m8:(m:Int)<8:=by omega
         have cm:=Qc hst (i:=m) (by omega)
         have hx:=hW32 m;have hwx:IntKind.u64.wrap (H.getD m 0)=H.getD m 0:=Qe4 hx.1 hx.2;have hbig:=fun w'=>big4 (H.getD m 0) hx.1 (by omega) w'
         have hsz3:(Q4 (tl (H.getD m 0) 4)).size=4:=by rw[<-Yq,JU (O2 _ _),Jh]
         have hns:¬(9223372036854775807<out.size+4):=by omega
         have HF:Hid (tB (out++Q4 (tl (H.getD m 0) 4))=outR H (m+1)):=by
          show _=_
          rw[JT,HO.out,JU (O2 _ _),outR]
         have hlt':Sg<wr.heap.size:=QI hst (by intro h;have:=LW List.length h;rw[Qn,hHl] at this;cases this)
         have HK:Hid (∀w',Below wr.heap.size wr w'->w'.rangeAt Sg 0 (cW H)∧Below w.heap.size w w'):=fun w' h=>⟨Qm h hlt' hst,hb.trans (h.mono hb.size)⟩
         clear hst hb hW32 hos hlt';generalize H.getD m 0=x at *
         go_wp2_with (go_at_call 281;refine(hbig _).mono ?_;rintro e w5 ⟨rfl,hbw⟩)
         go_roundg (8-(m+1))
         case rel=>go_light;exact⟨m+1,_,by omega,rfl,rfl,by go_num,HF.out,(HK.out _ hbw).1,(HK.out _ hbw).2⟩
         case measure=>go_light;omega
        ·obtain rfl:m=8:=by omega
         have HOUT:Hid (out=O1 rs (Qk ss)):=by
          show _=_
          rw[<-HSUM.out,<-QmV,<-HO.out,Qnu]
         have Hb:Hid (Below w.heap.size w wr):=hb;clear hst hb hos;go_wp2
         go_ret
         exact⟨by rw[<-HOUT.out];rfl,Hb.out⟩
end Go.Proofs.YtoblgjledefdbaaGreatDoor
