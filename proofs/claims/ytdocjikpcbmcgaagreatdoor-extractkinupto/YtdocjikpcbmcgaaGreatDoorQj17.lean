/- Own work. -/
import Derived.Test.YtdocjikpcbmcgaaGreatDoorQj16
set_option maxRecDepth 100000
set_option maxHeartbeats 2000000
namespace Go.Proofs.YtdocjikpcbmcgaaGreatDoor
open Go.RowKit
attribute [local go_sem ↓] Go.wp_at_zero Go.wp_at_succ
theorem Qf{α:Type}{l:List α}{n:Nat}(h:l.length=n+1) : ∃x t,l=x::t∧t.length=n:=by
 cases l with
 | nil=>cases h
 | cons x t=>exact⟨x,t,rfl,by simpa using h⟩
def clmD(n:Nat)(d:BA)(er:Int)(o1:Nat)(c1:BA):Int:=if er=0∧n=o1∧d=c1 then 0 else 150
theorem Qfc(w:World)(k:Int)(k1:1<=k)(k2:k<=32)(o1:Nat)(c1:BA)(ca:OA)(cb co cn cc:Nat)(l:List (Nat×BA))(hc:RdK w ca cb co cn l)(hcm:cn<=8796093021952)(s:BA)(hs:s.size<=281474976710656)(P:PV)(hd:dec s.data.toList=some P)(hk:P.k=k)(hyes:(P.kd=1∨P.kd=2)∧P.S=ixs l)
  (n:Nat) (d:BA) (er:Int)
  (hL : ∀W sa sb sc da db dc ao m c,Zb w W->RdF W sa sb sc da db dc P->Qk W w.heap.size (.slice ao m c) (vls l)->Zr 29 #[vP P.kd k P.old P.size (.slice sa P.S.length sc) (.slice da P.D.length dc),.slice ao m c] W (.tuple #[.agg #[.int .u64 (n:Int),.string d],.int .i64 er]))
  (r:Int) (hr:clmD n d er o1 c1=r) :
  Zr 11 #[.int .i64 k,.agg #[.int .u64 (o1:Int),.string c1],.slice ca cn cc,.string s] w (.int .i64 r):=by
 have HT:Hid (∀W,Calls Tryz.prog 27 #[.int .i64 k,.string s] W fun e w' => ∃sa sb sc da db dc,e = .returned (.tuple #[.agg #[.int .i64 P.kd,.int .i64 k,.int .u64 (P.old:Int),.int .u64 (P.size:Int),.slice sa P.S.length sc,.slice da P.D.length dc],.int .i64 0])∧RdF w' sa sb sc da db dc P∧Zb W w'):=fun W=>QeT W k k1 k2 s hs P hd hk
 have HO:Hid (∀W sa sb sc da db dc,Zb w W->RdF W sa sb sc da db dc P->Zr 28 #[vP P.kd k P.old P.size (.slice sa P.S.length sc) (.slice da P.D.length dc),.slice ca cn cc] W (.bool true)):=fun W sa sb sc da db dc hb hF=>QiO W P.kd k P.old P.size sa sb 0 sc P.S hF.p.rs hF.p.mS da P.D.length dc ca cb co cn cc l (hc.next hb) true (decide_eq_true hyes)
 have HV:Hid (∀W,Zb w W->Calls Tryz.prog 30 #[.slice ca cn cc] W fun e w' => ∃v,e = .returned v∧Qk w' W.heap.size v (vls l)∧Zb W w'):=fun W hb=>QfR W ca cb co cn cc l (hc.next hb) hcm
 have HL:=Qc hL;unfold vP at HO HL;obtain⟨W0,hW0⟩:=Ze (w.alloc (.cells #[.int .u64 (o1:Int),.string c1] 30));have hq:Rh W0 w.heap.size o1 c1∧Zb w W0:=by rw[<-hW0];exact⟨heap_alloc_new w _,bal (Below.refl _ _) _⟩
 have HX:Hid (∀F,Zb W0 F->Rh F w.heap.size o1 c1∧Zb w F):=fun F hF=>⟨hq.1.next hF,Qa hq.2 hF⟩
 clear hs hd hk hyes k1 k2 hc hcm hL hq;obtain⟨kd,kk,old,size,S,D⟩:=P;simp only at HT HO HL
 go_enter Tryz.func11,Tryz.ntmps11
 go_upto_region 1 with (fail)
 try rw[hW0]
 clear hW0
 go_upto_region 4 with (go_at_call 27;with_reducible refine(HT.out _).mono ?_;rintro e w1 ⟨sa,sb,sc,da,db,dc,rfl,hF,hb1⟩)
 obtain⟨F,hFe,h7,hb2,_⟩:=Yu w1 (.int .i64 kd) (.int .i64 k) (.int .u64 (old:Int)) (.int .u64 (size:Int)) (.slice sa S.length sc) (.slice da D.length dc)
 try rw[hFe]
 clear hFe;obtain⟨m0,m1,m2,m3,m4,m5⟩:=h7.cells;have hF2:=hF.next hb2;have xb:=(HX.out _ (Qa hb1 hb2)).2
 go_upto_region 6 with (go_at_call 28;with_reducible refine(HO.out _ _ _ _ _ _ _ xb hF2).mono ?_;rintro e w3 ⟨rfl,hb3⟩)
 have x7:=h7.next hb3;have HF3:=Qc (hF2.next hb3);obtain⟨xr,xb3⟩:=HX.out _ (Qa (Qa hb1 hb2) hb3);have HB3:=Qc (And.intro xr xb3);clear hF2 hF xb m0 m1 m2 m3 m4 m5 hb2 hb1 hb3 HT HO HX xr xb3;refine YH (by kernel_rfl) (by kernel_rfl) (CF w3 w.heap.size w1.heap.size k (.agg #[.int .i64 kd,.int .i64 k,.int .u64 (old:Int),.int .u64 (size:Int),.slice sa S.length sc,.slice da D.length dc]) k s ca cn cc (vls l) (.tuple #[.agg #[.int .u64 (n:Int),.string d],.int .i64 er]) (.agg #[.int .u64 (n:Int),.string d]) n d er)
  (fun Z _ hZ => { sz:=rfl,df:=rfl,i2:=rfl,i5:=rfl,i9:=rfl,be:=hZ,a0:=(fun h=>by cases h),a1:=(fun h=>by cases h),a2:=(fun h=>by cases h),a3:=(fun h=>by cases h),a4:=(fun h=>by cases h),a5:=(fun h=>by cases h),a6:=(fun h=>by cases h),a7:=(fun h=>by cases h),a9:=(fun h=>by cases h) })
  ⟨cf0 (fun Z hZ=>⟨_,_,_,_,_,_,rfl,x7.next hZ⟩),cf1,cf2 rfl (fun Z hZ=>HV.out Z (Qa HB3.out.2 hZ)),cf3 rfl rfl (fun Z ao m c hZ ho=>HL.out Z sa sb sc da db dc ao m c (Qa HB3.out.2 hZ) (HF3.out.next hZ) (Qev ho HB3.out.2.size)),cf4 rfl,cf5 rfl rfl,cf6 rfl rfl,cf7 rfl,cf8 rfl rfl rfl rfl,cf9 rfl,trivial⟩ ?_
 intro L a7 w7 hall hI;obtain⟨⟨tl⟩,df⟩:=a7;have hl0:tl.length=39:=hI.sz;obtain⟨u0,t0,rfl,hl1⟩:=Qf hl0;obtain⟨u1,t1,rfl,hl2⟩:=Qf hl1;obtain⟨u2,t2,rfl,hl3⟩:=Qf hl2;obtain⟨u3,t3,rfl,hl4⟩:=Qf hl3;obtain⟨u4,t4,rfl,hl5⟩:=Qf hl4;obtain⟨u5,t5,rfl,hl6⟩:=Qf hl5;obtain⟨u6,t6,rfl,hl7⟩:=Qf hl6;obtain⟨u7,t7,rfl,hl8⟩:=Qf hl7;obtain⟨u8,t8,rfl,hl9⟩:=Qf hl8;obtain⟨u9,t9,rfl,hl10⟩:=Qf hl9;obtain⟨u10,t10,rfl,hl11⟩:=Qf hl10;obtain⟨u11,t11,rfl,hl12⟩:=Qf hl11;obtain⟨u12,t12,rfl,hl13⟩:=Qf hl12;obtain⟨u13,t13,rfl,hl14⟩:=Qf hl13;obtain⟨u14,t14,rfl,hl15⟩:=Qf hl14;obtain⟨u15,t15,rfl,hl16⟩:=Qf hl15;obtain⟨u16,t16,rfl,hl17⟩:=Qf hl16;obtain⟨u17,t17,rfl,hl18⟩:=Qf hl17;obtain⟨u18,t18,rfl,hl19⟩:=Qf hl18;obtain⟨u19,t19,rfl,hl20⟩:=Qf hl19;obtain⟨u20,t20,rfl,hl21⟩:=Qf hl20;obtain⟨u21,t21,rfl,hl22⟩:=Qf hl21;obtain⟨u22,t22,rfl,hl23⟩:=Qf hl22;obtain⟨u23,t23,rfl,hl24⟩:=Qf hl23;obtain⟨u24,t24,rfl,hl25⟩:=Qf hl24;obtain⟨u25,t25,rfl,hl26⟩:=Qf hl25;obtain⟨u26,t26,rfl,hl27⟩:=Qf hl26;obtain⟨u27,t27,rfl,hl28⟩:=Qf hl27;obtain⟨u28,t28,rfl,hl29⟩:=Qf hl28;obtain⟨u29,t29,rfl,hl30⟩:=Qf hl29;obtain⟨u30,t30,rfl,hl31⟩:=Qf hl30;obtain⟨u31,t31,rfl,hl32⟩:=Qf hl31;obtain⟨u32,t32,rfl,hl33⟩:=Qf hl32;obtain⟨u33,t33,rfl,hl34⟩:=Qf hl33;obtain⟨u34,t34,rfl,hl35⟩:=Qf hl34;obtain⟨u35,t35,rfl,hl36⟩:=Qf hl35;obtain⟨u36,t36,rfl,hl37⟩:=Qf hl36;obtain⟨u37,t37,rfl,hl38⟩:=Qf hl37;obtain⟨u38,t38,rfl,hl39⟩:=Qf hl38;obtain rfl:=LG.1 hl39;obtain rfl:df=[]:=hI.df;obtain rfl:u5 = .pointer (some ⟨w.heap.size,0,none⟩):=hI.i5;obtain rfl:u10 = .int .i64 er:=hI.a9 (hall 9 (by decide))
 obtain⟨q,e11,_,_,_,g8⟩:=hI.a7 (hall 7 (by decide))
 obtain rfl:u11 = .pointer (some ⟨q,0,none⟩):=e11;obtain⟨b0,b1⟩:=(g8 (hall 8 (by decide))).cells
 have xB:=Qa HB3.out.2 hI.be;obtain⟨a0,a1⟩:=(HB3.out.1.next hI.be).cells;have HB:=Qc xB;clear hl0 hl1 hl2 hl3 hl4 hl5 hl6 hl7 hl8 hl9 hl10 hl11 hl12 hl13 hl14 hl15 hl16 hl17 hl18 hl19 hl20 hl21 hl22 hl23 hl24 hl25 hl26 hl27 hl28 hl29 hl30 hl31 hl32 hl33 hl34 hl35 hl36 hl37 hl38 hl39;clear xB hI hall g8 HB3 HF3 HL HV x7 h7;unfold clmD at hr
 by_cases h1:er=0
 ·subst h1
  by_cases h2:n=o1∧d=c1
  ·obtain⟨rfl,rfl⟩:=h2;rw[if_pos ⟨rfl,rfl,rfl⟩] at hr;subst hr;go_wp2
   go_ret
   exact⟨rfl,HB.out⟩
  ·rw[if_neg (fun h=>h2 h.2)] at hr
   subst hr
   rcases Qae h2 with hn|⟨rfl,hd⟩
   ·have hz : ¬(n:Int)=(o1:Int):=by omega
    have hzb:((n:Int) == (o1:Int))=false:=by simpa using hz
    clear h2 hn;go_wp2
    go_ret
    exact⟨rfl,HB.out⟩
   ·have hz:=YG hd;have hzb:=Yo hd;clear h2 hd;go_wp2
    go_ret
    exact⟨rfl,HB.out⟩
 ·rw[if_neg (fun h=>h1 h.1)] at hr
  subst hr;have hzb:(er == 0)=false:=by simpa using h1
  go_wp2
  go_ret
  exact⟨rfl,HB.out⟩
theorem Qci(x n:Int)(w:World)(hn:0<n)(hn':n<32) :
  Calls Tryz.prog 124 #[.int .u32 x,.int .i64 n] w fun e w'=>e = .returned (.int .u32 (UD x n)) ∧ ∃k,w'=w.drewN k:=by
 have e1:IntKind.i64.wrap (32 - n)=32 - n:=Yb _ (by omega) (by omega)
 have b0:(0:Int)<=n:=by omega
 have b1:(0:Int)<=32 - n:=by omega
 have hm:min n.toNat 32=n.toNat:=by omega
 have hm2:min (32 - n).toNat 32=(32 - n).toNat:=by omega
 go_enter Tryz.func124,Tryz.ntmps124;go_wp2
 go_region_held3 (fun _=>True) (trivial) (fail)
 go_wp2
 go_ret
 refine⟨?_,1,rfl⟩
 show Ending.returned (Value.int .u32 _)=_
 unfold UD
 rfl
def horI(blk:List Int)(t:Nat):Nat->Int
 | 0=>0
 | i+1=>IntKind.u32.wrap (IntKind.u32.wrap (horI blk t i*256)+IntKind.u32.wrap (blk.getD (4*t+i) 0))
def Qai(blk:List Int):Nat->List Int
 | 0=>[]
 | k+1=>Qai blk k++[horI blk k 4]
theorem QcV(blk:List Int)(k:Nat):(Qai blk k).length=k:=by
 induction k with
 | zero=>rfl
 | succ k ih=>simp[Qai,ih]
def Yy(blk:List Int):Nat->List Int
 | 0=>Qai blk 16
 | k+1=>Yy blk k++[Qeq ((Yy blk k).getD k 0) ((Yy blk k).getD (k+1) 0) ((Yy blk k).getD (k+9) 0) ((Yy blk k).getD (k+14) 0)]
theorem QeO(blk:List Int)(k:Nat):(Yy blk k).length=16+k:=by
 induction k with
 | zero=>exact QcV _ _
 | succ k ih=>simp only[Yy,List.length_append,ih,List.length_cons,List.length_nil];omega
theorem Qg8{w:World}{b i j:Nat}{v u:Value}(h:w.cell? ⟨b,i,none⟩=some u)(hne:i≠j):(w.setCell ⟨b,j,none⟩ v).cell? ⟨b,i,none⟩=some u:=by
 rw[Lj _ _ _ _ (fun e=>hne (by have:=congrArg Addr.off e;simpa using this.symm))];exact h
theorem Qex{l:List Int}(h:l.length<64):pad (l++[0])=pad l:=by
 rw[<-Qa1 h 0]
 apply List.ext_getElem?
 intro i
 by_cases e:i=l.length
 ·subst e;rw[List.getElem?_set_self (by rw[Um (by omega)];omega)]
  have:=Yp l l.length;rw[La,Lc (by rw[Um (by omega)];omega),La,NK (l:=l) (by omega)] at this
  rw[Lc (by rw[Um (by omega)];omega)]
  simpa using this.symm
 ·rw[Ij (fun h=>e h.symm)]
theorem QkA(b:BA)(m:Nat)(hm:m<b.size)(w:World):(Instr.index 9 (.string b) (.int .i64 (m:Int))).run Tryz.prog w = .ok (.int .u8 ((tB b).getD m 0)) w:=by
 have e:(tB b).getD m 0=(b[m].toNat:Int):=by
  have:b.data.toList[m]? = some b[m]:=by
   rw[Ns,Na (by simpa using hm)];rfl
  simp[tB,List.getD_eq_getElem?_getD,this]
 have h2:b[m]? = some b[m]:=getElem?_pos b m hm
 rw[e];simp[Instr.index,asIntOf,run_underlying Tryz.underlying9,h2]
structure Pl(w wr:World)(ws:List Int):Prop where
 below:Zb w wr
 res:wr.there w.heap.size 0 64
 ws:wr.rangeAt (w.heap.size+1) 0 (cW (pad ws))
 wst:wr.there (w.heap.size+1) 0 64
theorem Pl.set{w wr:World}{ws:List Int}{y:Int}(h:Pl w wr (ws++[y])){m:Nat}(hm:ws.length=m)(hl:m<64)(v:Int):Pl w (wr.setCell ⟨w.heap.size+1,m,none⟩ (.int .u32 v)) (ws++[v]):=by
 subst hm;refine⟨h.below.setCell (by show w.heap.size<=w.heap.size+1;omega) _,Q3 h.res _ _,?_,Q3 h.wst _ _⟩
 have:=Uw h.ws ws.length (.int .u32 v);rw[Ll,Qe9,<-Qa1 hl y,List.set_set,Qa1 hl] at this;exact this
theorem Pl.step{w wr:World}{ws:List Int}(h:Pl w wr ws){m:Nat}(hm:ws.length=m)(hl:m<64)(v:Int):Pl w (wr.setCell ⟨w.heap.size+1,m,none⟩ (.int .u32 v)) (ws++[v]) :=
 Pl.set (y:=0) ⟨h.below,h.res,by rw[Qex (by omega)];exact h.ws,h.wst⟩ hm hl v
theorem Pl.same{w X Y:World}{ws:List Int}(h:Pl w X ws)(e1:Y.heap=X.heap)(e2:Y.os=X.os)(e3:Y.tape=X.tape)(e4:Y.output=X.output):Pl w Y ws:=by
 have hc : ∀a,Y.cell? a=X.cell? a:=fun a=>Lr (w:=X) (by rw[e1])
 have hf : ∀a,Y.frozen? a=X.frozen? a:=fun a=>IB (w:=X) (by rw[e1])
 exact⟨⟨e2.trans h.below.os,e3.trans h.below.tape,e4.trans h.below.output,by rw[e1];exact h.below.size,fun k hk=>by rw[e1];exact h.below.block k hk⟩,
  fun j hj=>by rw[hc,hf];exact h.res j hj,fun j v hv=>by rw[hc];exact h.ws j v hv,fun j hj=>by rw[hc,hf];exact h.wst j hj⟩
theorem Pl.start(w:World)(z1 z2:Array Value)(t1 t2:TypeId)(h1:z1.size=64)(h2:z2=(cW (pad [])).toArray):Pl w ((w.alloc (.cells z1 t1)).alloc (.cells z2 t2)) []:=by
 subst h2;have q1:=Qy w z1 t1 64 (by omega)
 have r2:=Qv (w.alloc (.cells z1 t1)) (cW (pad [])) t2;have q2:=Qy (w.alloc (.cells z1 t1)) (cW (pad [])).toArray t2 64 (by simp[Qp,pad])
 simp only[World.size_alloc] at r2 q2;exact⟨((Below.refl _ _).alloc (Lb _) _).alloc (by simp) _,World.there_alloc q1 _,r2,q2⟩
theorem Qjn(b:BA)(hb:b.size=64)(w:World) :
  Zr 123 #[.string b] w (.agg (cW (Yy (tB b) 48)).toArray):=by
 go_enter Tryz.func123,Tryz.ntmps123;go_wp2
 go_loopg [4] 16 (fun g i wr => ∃k:Nat,k<=16∧g=16 - k∧i = .int .i64 k∧Pl w wr (Qai (tB b) k))
 case atStart =>
  go_light;exact⟨0,Lf _,rfl,rfl,Pl.start w _ _ _ _ rfl rfl⟩
 case round =>
  obtain⟨k,hk,rfl,rfl,hs⟩:=hrel
  by_cases hlt:k<16
  ·have hk0:(0:Int)<=(k:Int):=Le _;have hk8:(k:Int)<16:=by omega
   have dk:(k:Int)<64:=by omega
   have hlen:=QcV (tB b) k;go_wp2
   go_loopg [5] 4 (fun g i wi => ∃j:Nat,j<=4∧g=4 - j∧i = .int .i64 j∧Pl w wi (Qai (tB b) k++[horI (tB b) k j]))
   case atStart =>
    go_light;refine⟨0,Lf _,rfl,rfl,?_⟩
    exact⟨hs.below,hs.res,by rw[show horI (tB b) k 0=0 from rfl,Qex (by omega)];exact hs.ws,hs.wst⟩
   case round =>
    clear hs;obtain⟨j,hj,rfl,rfl,hs⟩:=hrel
    by_cases hjl:j<4
    ·have hj0:(0:Int)<=(j:Int):=Le _;have hj4:(j:Int)<4:=by omega
     obtain⟨m,hm⟩ : ∃m:Nat,4*k+j=m:=⟨_,rfl⟩;obtain⟨m4,hm4⟩ : ∃m4:Nat,4*k=m4:=⟨_,rfl⟩;have e0:IntKind.i64.wrap (4*(k:Int))=(m4:Int):=by rw[Yb _ (by omega) (by omega)];omega
     have e1:IntKind.i64.wrap ((m4:Int)+(j:Int))=(m:Int):=by rw[Yb _ (by omega) (by omega)];omega
     have hidx:=fun w'=>QkA b m (by omega) w'
     have c0:wr.cell? ⟨w.heap.size+1,k,none⟩=some (.int .u32 (horI (tB b) k j)):=by
      have:=Qe hs.ws (i:=k) (by rw[Um (by simp[hlen];omega)];omega)
      rw[Yp,La,LM (by omega),hlen,ND] at this
      exact this
     have f0:wr.frozen? ⟨w.heap.size+1,k,none⟩=false:=by have:=(hs.wst k (by omega)).2;rwa [Ll] at this
     have HF:Hid (∀v,Pl w (wr.setCell ⟨w.heap.size+1,k,none⟩ (.int .u32 v)) (Qai (tB b) k++[v])):=fun v=>hs.set hlen (by omega) v
     have HV:Hid (horI (tB b) k (j+1)=IntKind.u32.wrap (IntKind.u32.wrap (horI (tB b) k j*256)+IntKind.u32.wrap ((tB b).getD m 0))):=by
      show _=_
      rw[horI,hm]
     clear hs hm hm4;generalize horI (tB b) k j=x at *;generalize (tB b).getD m 0=y at *;go_wp2
     go_region
     all_goals
      go_wp2
      go_roundg (4 - (j+1))
      case rel =>
       go_light;refine⟨j+1,by omega,rfl,by go_num,?_⟩
       have e:IntKind.u32.wrap (IntKind.u32.wrap (x*256)+IntKind.u32.wrap y)=(x*256+y) % 4294967296:=by simp only[IntKind.wrap_u32'];omega
       rw[HV.out,e];exact(HF.out _).same rfl rfl rfl rfl
      case measure=>go_light;omega
    ·obtain rfl:j=4:=by omega
     go_wp2
     go_roundg (16 - (k+1))
     case rel =>
      go_light;exact⟨k+1,by omega,rfl,by go_num,hs⟩
     case measure=>go_light;omega
  ·obtain rfl:k=16:=by omega
   clear hk hlt;go_wp2
   go_loopg [6] 48 (fun g i wr => ∃k:Nat,k<=48∧g=48 - k∧i = .int .i64 ((16+k:Nat):Int)∧Pl w wr (Yy (tB b) k))
   case atStart =>
    go_light;exact⟨0,Lf _,rfl,rfl,hs⟩
   case round =>
    clear hs;obtain⟨k,hk,rfl,rfl,hs⟩:=hrel
    by_cases hlt:k<48
    ·obtain⟨t,ht⟩ : ∃t:Nat,16+k=t:=⟨_,rfl⟩;obtain⟨k1,hk1⟩ : ∃k1:Nat,k+1=k1:=⟨_,rfl⟩;obtain⟨k9,hk9⟩ : ∃k9:Nat,k+9=k9:=⟨_,rfl⟩;obtain⟨k14,hk14⟩ : ∃k14:Nat,k+14=k14:=⟨_,rfl⟩;rw[ht];have e0:IntKind.i64.wrap ((t:Int) - 16)=(k:Int):=by rw[Yb _ (by omega) (by omega)];omega
     have e2:IntKind.i64.wrap ((t:Int) - 7)=(k9:Int):=by rw[Yb _ (by omega) (by omega)];omega
     have e1:(t:Int) - 15=(k1:Int):=by omega
     have e3:(t:Int) - 2=(k14:Int):=by omega
     have b0:(0:Int)<=(k:Int):=Le _;have b1:(0:Int)<=(k1:Int):=Le _;have b2:(0:Int)<=(k9:Int):=Le _;have b3:(0:Int)<=(k14:Int):=Le _;have bt:(0:Int)<=(t:Int):=Le _;have d0:(k:Int)<64:=by omega
     have d1:(k1:Int)<64:=by omega
     have d2:(k9:Int)<64:=by omega
     have d3:(k14:Int)<64:=by omega
     have dt:(t:Int)<64:=by omega
     have hlen:=QeO (tB b) k;have hpl:(pad (Yy (tB b) k)).length=64:=Um (by omega)
     have c0:wr.cell? ⟨w.heap.size+1,k,none⟩=some (.int .u32 ((Yy (tB b) k).getD k 0)):=by rw[<-Yp];exact Qe hs.ws (by omega)
     have c1:wr.cell? ⟨w.heap.size+1,k1,none⟩=some (.int .u32 ((Yy (tB b) k).getD k1 0)):=by rw[<-Yp];exact Qe hs.ws (by omega)
     have c2:wr.cell? ⟨w.heap.size+1,k9,none⟩=some (.int .u32 ((Yy (tB b) k).getD k9 0)):=by rw[<-Yp];exact Qe hs.ws (by omega)
     have c3:wr.cell? ⟨w.heap.size+1,k14,none⟩=some (.int .u32 ((Yy (tB b) k).getD k14 0)):=by rw[<-Yp];exact Qe hs.ws (by omega)
     have st:wr.cell? ⟨w.heap.size+1,t,none⟩=some (.int .u32 ((Yy (tB b) k).getD t 0)):=by rw[<-Yp];exact Qe hs.ws (by omega)
     have sf:wr.frozen? ⟨w.heap.size+1,t,none⟩=false:=by have:=(hs.wst t (by omega)).2;rwa [Ll] at this
     have HF:Hid (∀v,Pl w (wr.setCell ⟨w.heap.size+1,t,none⟩ (.int .u32 v)) (Yy (tB b) k++[v])):=fun v=>hs.step (by omega) (by omega) v
     have HV:Hid (Yy (tB b) (k+1)=Yy (tB b) k++[Qeq ((Yy (tB b) k).getD k 0) ((Yy (tB b) k).getD k1 0) ((Yy (tB b) k).getD k9 0) ((Yy (tB b) k).getD k14 0)]):=by
      show _=_
      subst hk1 hk9 hk14;rfl
     have HT:Hid (16+k=t):=ht;have N0:k≠t:=by omega
     have N2:k9≠t:=by omega
     clear hs ht hk1 hk9 hk14 hlen hpl hb;generalize (Yy (tB b) k).getD k 0=x0 at *;generalize (Yy (tB b) k).getD k1 0=x1 at *;generalize (Yy (tB b) k).getD k9 0=x2 at *;generalize (Yy (tB b) k).getD k14 0=x3 at *;generalize (Yy (tB b) k).getD t 0=z at *;go_wp2
     go_region_held3 (fun w'=>w'.cell? ⟨w.heap.size+1,k,none⟩=some (.int .u32 x0)∧w'.cell? ⟨w.heap.size+1,k9,none⟩=some (.int .u32 x2)) (first|assumption|(refine⟨?_,?_⟩ <;> first|assumption|(refine Qg8 ?_ ?_ <;> assumption))) (first|(go_at_call 124;refine(Qci _ _ _ (by decide) (by decide)).mono ?_;rintro e w' ⟨rfl,q,rfl⟩))
     go_wp2
     go_roundg (48 - (k+1))
     case rel =>
      go_light;refine⟨k+1,by omega,rfl,?_,?_⟩
      ·have:=HT.out;go_num
      rw[HV.out];exact(HF.out _).same rfl rfl rfl rfl
     case measure=>go_light;omega
    ·obtain rfl:k=48:=by omega
     have hlen:=QeO (tB b) 48;have hws:=hs.ws;rw[Qew hlen] at hws;have hbel:=hs.below;have hi:(Tryz.prog.info? 167).map (·.size)=some (cW (Yy (tB b) 48)).length:=by rw[Qp,hlen];exact QdM
     have hi2:(Tryz.prog.info? 167).map (·.size)=some (cW (Yy (tB b) 48)).toArray.size:=by simpa using hi
     have hre2:wr.there w.heap.size 0 (cW (Yy (tB b) 48)).toArray.size:=by
      have hsz:(cW (Yy (tB b) 48)).toArray.size=64:=by simp[Qp,hlen]
      rw[hsz];exact hs.res
     clear hs hk hlt hlen hb;generalize hE:Yy (tB b) 48=ws at *;have HE:Hid (Yy (tB b) 48=ws):=hE;clear hE
     go_wp2_with (first|(refine wpList_load_mid rfl 167 _ rfl (w.heap.size+1) 0 rfl (cW ws) _ hws Tryz.underlying167 rfl hi ?_)|(refine wpList_store_mid rfl 167 _ _ rfl w.heap.size 0 (cW ws).toArray rfl rfl hre2 hi2 (all_oneCell_toArray (Uz ws)) ?_))
     refine bodyPost_ret (v := .agg (cW ws).toArray) ?_ rfl ⟨by rw[HE.out],?_⟩
     ·refine Ye Tryz.results123 _ _ w.heap.size 0 (cW ws) (.array 64 112) ?_ ?_ Tryz.underlying167 rfl hi
      ·rfl
      ·go_light
       simpa using World.rangeAt_setCells_same _ _ _ _ (by simpa using hre2)
     ·go_light;exact Qt hbel (Lb _) _ _
theorem QlD(a b c d:Int)(ha:0<=a∧a<256)(hb:0<=b∧b<256)(hc:0<=c∧c<256)(hd:0<=d∧d<256) :
  Qe2 a b c d=a*16777216+b*65536+c*256+d:=by
 obtain⟨a,rfl⟩:=NO ha.1;obtain⟨b,rfl⟩:=NO hb.1;obtain⟨c,rfl⟩:=NO hc.1;obtain⟨d,rfl⟩:=NO hd.1;have h1:a<256:=by omega
 have h2:b<256:=by omega
 have h3:c<256:=by omega
 have h4:d<256:=by omega
 have e1:IntKind.u32.wrap (IntKind.u32.wrap (a:Int)*16777216)=((a*16777216:Nat):Int):=by simp only[IntKind.wrap_u32'];omega
 have e2:IntKind.u32.wrap (IntKind.u32.wrap (b:Int)*65536)=((b*65536:Nat):Int):=by simp only[IntKind.wrap_u32'];omega
 have e3:IntKind.u32.wrap (IntKind.u32.wrap (c:Int)*256)=((c*256:Nat):Int):=by simp only[IntKind.wrap_u32'];omega
 have e4:IntKind.u32.wrap (d:Int)=((d:Nat):Int):=by simp only[IntKind.wrap_u32'];omega
 have j1:a*16777216 ||| b*65536=a*16777216+b*65536:=nat_join 24 _ _ (by omega) (by omega)
 have j2:(a*16777216+b*65536) ||| c*256=a*16777216+b*65536+c*256:=nat_join 16 _ _ (by omega) (by omega)
 have j3:(a*16777216+b*65536+c*256) ||| d=a*16777216+b*65536+c*256+d:=nat_join 8 _ _ (by omega) (by omega)
 unfold Qe2;rw[e1,e2,e3,e4,u32_or_nat _ _ (by omega) (by omega),j1,u32_or_nat _ _ (by omega) (by omega),j2,u32_or_nat _ _ (by omega) (by omega),j3]
 omega
def Bytes(l:List Int):Prop := ∀x∈l,0<=x∧x<256
theorem Bytes.getD{l:List Int}(h:Bytes l)(i:Nat):0<=l.getD i 0∧l.getD i 0<256:=by
 rw[La]
 cases e:l[i]? with
 | none=>exact⟨by decide,by decide⟩
 | some x=>exact h x (Ik e)
theorem Qmq{blk:List Int}(h:Bytes blk)(k:Nat):horI blk k 4=Qe2 (blk.getD (4*k) 0) (blk.getD (4*k+1) 0) (blk.getD (4*k+2) 0) (blk.getD (4*k+3) 0):=by
 have h0:=h.getD (4*k);have h1:=h.getD (4*k+1);have h2:=h.getD (4*k+2);have h3:=h.getD (4*k+3);rw[QlD _ _ _ _ h0 h1 h2 h3];simp only[horI,IntKind.wrap_u32',Nat.add_zero];omega
theorem Qld{blk:List Int}(h:Bytes blk)(k:Nat):Yy blk k=Q6 blk k:=by
 have h0 : ∀k,Qai blk k=sch0 blk k:=fun k=>by
  induction k with
  | zero=>rfl
  | succ k ih=>rw[Qai,sch0,ih,Qmq h]
 induction k with
 | zero=>exact h0 16
 | succ k ih=>rw[Yy,Q6,ih]
theorem QjH(s:BA):Bytes (tB s):=by
 intro x hx;obtain⟨y,_,rfl⟩:=LE.1 hx;have:=y.toNat_lt;omega
end Go.Proofs.YtdocjikpcbmcgaaGreatDoor
