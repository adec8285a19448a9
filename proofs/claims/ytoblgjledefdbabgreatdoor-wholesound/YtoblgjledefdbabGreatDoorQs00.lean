/- Own work. -/
import Derived.Test.YtoblgjledefdbabGreatDoorQsA
import Derived.Test.YtoblgjledefdbabGreatDoorProg
import Derived.WalkSpells
import Derived.Deep.RegionHeld3
import Derived.Deep.DrawnRows
import Derived.Deep.Light
set_option maxRecDepth 100000
set_option maxHeartbeats 2000000
namespace Go.Proofs.YtoblgjledefdbabGreatDoor
open Go.RowKit
attribute [local go_sem ↓] Go.wp_at_zero Go.wp_at_succ
open Go.Proofs.Tryz
def Ue(x n:Int):Int:=bits .or .u32 (x/2^n.toNat) (IntKind.u32.wrap (x*2^(32-n).toNat))
def cB(l:List Int):List Value:=l.map (Value.int .u8)
def cW(l:List Int):List Value:=l.map (Value.int .u32)
def pad(l:List Int):List Int:=l++List.replicate (64-l.length) 0
def Qfa(a b c d:Int):Int :=
 bits .or .u32 (bits .or .u32 (bits .or .u32 (IntKind.u32.wrap (IntKind.u32.wrap a*16777216)) (IntKind.u32.wrap (IntKind.u32.wrap b*65536))) (IntKind.u32.wrap (IntKind.u32.wrap c*256))) (IntKind.u32.wrap d)
def sch0(blk:List Int):Nat->List Int
 | 0=>[]
 | k+1=>sch0 blk k++[Qfa (blk.getD (4*k) 0) (blk.getD (4*k+1) 0) (blk.getD (4*k+2) 0) (blk.getD (4*k+3) 0)]
def QgY(a x c y:Int):Int :=
 IntKind.u32.wrap (IntKind.u32.wrap (IntKind.u32.wrap (a+bits .xor .u32 (bits .xor .u32 (Ue x 7) (Ue x 18)) (x/8))+c)+bits .xor .u32 (bits .xor .u32 (Ue y 17) (Ue y 19)) (y/1024))
def Q1(blk:List Int):Nat->List Int
 | 0=>sch0 blk 16
 | k+1=>Q1 blk k++[QgY ((Q1 blk k).getD k 0) ((Q1 blk k).getD (k+1) 0) ((Q1 blk k).getD (k+9) 0) ((Q1 blk k).getD (k+14) 0)]
theorem OZ(blk:List Int)(k:Nat):(sch0 blk k).length=k:=by
 induction k with
 | zero=>rfl
 | succ k ih=>simp[sch0,ih]
theorem O0(blk:List Int)(k:Nat):(Q1 blk k).length=16+k:=by
 induction k with
 | zero=>exact OZ _ _
 | succ k ih=>simp only[Q1,List.length_append,ih,List.length_cons,List.length_nil];omega
theorem Y8{l:List Int}(h:l.length<=64):(pad l).length=64:=by simp[pad];omega
theorem QeL{l:List Int}(h:l.length=64):pad l=l:=by simp[pad,h]
theorem Q6(l:List Int)(i:Nat):(pad l).getD i 0=l.getD i 0:=by
 unfold pad;simp only[List.getD_eq_getElem?_getD]
 by_cases h:i<l.length
 ·rw[LG h]
 ·rw[LW (by omega),NU (l:=l) (by omega),List.getElem?_replicate]
  split <;> rfl
theorem QaS{l:List Int}(h:l.length<64)(v:Int):(pad l).set l.length v=pad (l++[v]):=by
 unfold pad;rw[Nh _ _ (Lb _)];obtain⟨n,hn⟩:∃n,64-l.length=n+1:=⟨64-l.length-1,by omega⟩
 have hn':64-(l++[v]).length=n:=by simp;omega
 rw[hn,hn',I5];simp
theorem Qgv{w:World}{b o:Nat}{l:List Int}(h:w.rangeAt b o (cB l)){i:Nat}(hi:i<l.length):w.cell? ⟨b,o+i,none⟩=some (.int .u8 (l.getD i 0)) :=
 h i _ (by simp[cB,List.getElem?_eq_getElem hi,List.getD_eq_getElem?_getD])
theorem QlB{w:World}{b o:Nat}{l:List Int}(h:w.rangeAt b o (cW l)){i:Nat}(hi:i<l.length):w.cell? ⟨b,o+i,none⟩=some (.int .u32 (l.getD i 0)) :=
 h i _ (by simp[cW,List.getElem?_eq_getElem hi,List.getD_eq_getElem?_getD])
theorem Yg{w:World}{b:Nat}{l:List Int}(h:w.rangeAt b 0 (cB l)){i:Nat}(hi:i<l.length):w.cell? ⟨b,i,none⟩=some (.int .u8 (l.getD i 0)):=by
 have:=Qgv h hi;rwa [Lp] at this
theorem Qd{w:World}{b:Nat}{l:List Int}(h:w.rangeAt b 0 (cW l)){i:Nat}(hi:i<l.length):w.cell? ⟨b,i,none⟩=some (.int .u32 (l.getD i 0)):=by
 have:=QlB h hi;rwa [Lp] at this
theorem Ql(l:List Int):(cW l).length=l.length:=by simp[cW]
theorem Qu(l:List Int):(cB l).length=l.length:=by simp[cB]
theorem Ua(l:List Int):∀v∈cW l,v.oneCell'=true:=by
 intro v hv;obtain⟨x,_,rfl⟩:=List.mem_map.1 hv;rfl
theorem Qac(l:List Int):∀v∈cB l,v.oneCell'=true:=by
 intro v hv;obtain⟨x,_,rfl⟩:=List.mem_map.1 hv;rfl
theorem Qfn(l:List Int)(i:Nat)(v:Int):(cW l).set i (.int .u32 v)=cW (l.set i v):=by simp[cW,List.map_set]
theorem Qfm(l:List Int)(i:Nat)(v:Int):(cB l).set i (.int .u8 v)=cB (l.set i v):=by simp[cB,List.map_set]
theorem QhN{w:World}{a b:Addr}{v u:Value}(h:w.cell? b=some u)(hne:a.block≠b.block):(w.setCell a v).drew.cell? b=some u:=by
 rw[Ns,Lz _ _ _ _ (fun e=>hne (by rw[e]))];exact h
theorem YC{w:World}{b o:Nat}{cs:List Value}(h:w.rangeAt b o cs)(i:Nat)(v:Value):(w.setCell ⟨b,o+i,none⟩ v).rangeAt b o (cs.set i v):=fun j u hu=>by
 by_cases e:i=j
 ·subst e;rw[List.getElem?_set_self'] at hu
  cases hc:cs[i]? with
  | none=>simp[hc] at hu
  | some c=>
   simp[hc] at hu;subst hu;exact LU _ _ _ (h i c hc)
 ·rw[IB e] at hu;rw[Lz _ _ _ _ (fun e'=>e (by have:=LZ Addr.off e';simp at this;omega))]
  exact h j u hu
theorem YZ{w:World}{b o:Nat}{cs:List Value}(h:w.rangeAt b o cs){a:Addr}(ha:a.block≠b)(v:Value):(w.setCell a v).rangeAt b o cs:=fun j u hu=>by
 rw[Lz _ _ _ _ (fun e=>ha (by rw[e]))];exact h j u hu
theorem QL{w:World}{b o n:Nat}(h:w.there b o n)(a:Addr)(v:Value):(w.setCell a v).there b o n:=fun j hj=>by
 obtain⟨h1,h2⟩:=h j hj;refine⟨?_,by rw[NV];exact h2⟩
 obtain⟨u,hu⟩:=Option.isSome_iff_exists.1 h1
 by_cases e:a=⟨b,o+j,none⟩
 ·subst e;rw[LU _ _ _ hu];rfl
 ·rw[Lz _ _ _ _ e,hu];rfl
theorem Qk{w w':World}{B b o:Nat}{cs:List Value}(hb:Below B w w')(hlt:b<B)(h:w.rangeAt b o cs):w'.rangeAt b o cs:=fun j u hu=>by
 rw[hb.cell (p:=⟨b,o+j,none⟩) hlt];exact h j u hu
theorem QS{w w':World}{B b o n:Nat}(hb:Below B w w')(hlt:b<B)(h:w.there b o n):w'.there b o n:=fun j hj=>by
 rw[hb.cell (p:=⟨b,o+j,none⟩) hlt,hb.frozen (p:=⟨b,o+j,none⟩) hlt];exact h j hj
theorem Qq(w:World)(cs:List Value)(t:TypeId):(w.alloc (.cells cs.toArray t)).rangeAt w.heap.size 0 cs:=fun j u hu=>by
 rw[Nz,Lp];simpa using hu
theorem Qm(w:World)(cs:Array Value)(t:TypeId)(n:Nat)(hn:n<=cs.size):(w.alloc (.cells cs t)).there w.heap.size 0 n:=fun j hj=>by
 refine⟨?_,Wr _ _ _ _⟩
 rw[Nz,Lp,Nq (by omega)];rfl
theorem JI{w:World}{b o n:Nat}(h:w.there b o n)(hn:0<n):b<w.heap.size:=by
 obtain⟨u,hu⟩:=Option.isSome_iff_exists.1 (h 0 hn).1;exact Ll _ _ hu
theorem QH{w:World}{b o:Nat}{cs:List Value}(h:w.rangeAt b o cs)(hn:cs≠[]):b<w.heap.size:=by
 cases cs with
 | nil=>exact absurd rfl hn
 | cons c r=>exact Ll _ _ (h 0 c rfl)
theorem QV(x:Int)(h0:0<=x)(h1:x<9223372036854775808):IntKind.i64.wrap x=x:=by
 simp[IntKind.wrap,IntKind.bits,IntKind.signed];omega
theorem Om(x n:Int)(w:World)(hn:0<n)(hn':n<32) :
  Calls prog 249 #[.int .u32 x,.int .u64 n] w fun e w'=>e= .returned (.int .u32 (Ue x n))∧w'=w:=by
 go_enter func249,ntmps249;go_wp2
 go_ret
 refine⟨?_,rfl⟩
 simp only[Ue,IntKind.wrap_u32']
 rfl
theorem Qe9(n:Int)(w:World)(b:Nat)(h0:0<=n)(hc:w.cell? ⟨b,72,none⟩=some (.int .u64 n)) :
  Calls prog 236 #[Zv b] w fun e w'=>e= .returned (.int .i64 (n%64))∧w'=w:=by
 go_enter func236,ntmps236;go_wp2
 go_ret
 exact⟨rfl,rfl⟩
theorem QjG{w:World}{b i j:Nat}{v u:Value}(h:w.cell? ⟨b,i,none⟩=some u)(hne:i≠j):(w.setCell ⟨b,j,none⟩ v).drew.cell? ⟨b,i,none⟩=some u:=by
 rw[Ns,Lz _ _ _ _ (fun e=>hne (by have:=LZ Addr.off e;simpa using this.symm))];exact h
theorem QdO:(prog.info? 141).map (·.size)=some 64:=by kernel_rfl
theorem QZ{P:Program}{fn:Func}{p:Tmp}{ty:TypeId}(h:fn.results=#[.cell p ty])(tmps:Array Value)(w:World)(b o:Nat)(cs:List Value)(d:TypeDesc)
  (hp:tmps.getD p undef= .pointer (some ⟨b,o,none⟩)) (hc:w.rangeAt b o cs)
  (hu:P.underlying ty=some d) (hd:d.isRow=true) (hi:(P.info? ty).map (·.size)=some cs.length) :
  (results fn tmps).run P w= .ok (.agg cs.toArray) w:=by
 have hp':tmps[p]?.getD undef= .pointer (some ⟨b,o,none⟩):=by simpa using hp
 simp[results,h,hp',asAddr,run_loadVar_mid w b o ty cs d hc hu hd hi]
theorem Qo{B:Nat}{a w:World}(h:Below B a w){b:Nat}(hb:B<=b)(o:Nat)(cs:List Value):Below B a (w.setCells b o cs):=by
 induction cs generalizing o w with
 | nil=>exact h
 | cons c r ih=>exact ih (h.setCell (p:=⟨b,o,none⟩) hb c) (o+1)
structure Sch(w wr:World)(blk ws:List Int):Prop where
 below:Below w.heap.size w wr
 blk:wr.rangeAt w.heap.size 0 (cB blk)
 res:wr.there (w.heap.size+1) 0 64
 ws:wr.rangeAt (w.heap.size+1+1) 0 (cW (pad ws))
 wst:wr.there (w.heap.size+1+1) 0 64
theorem Sch.step{w wr:World}{blk ws:List Int}(h:Sch w wr blk ws)(hl:ws.length<64)(v:Int) :
  Sch w (wr.setCell ⟨w.heap.size+1+1,ws.length,none⟩ (.int .u32 v)).drew blk (ws++[v]):=by
 refine⟨(h.below.setCell (by show w.heap.size<=w.heap.size+1+1;omega) _).drew,?_,?_,?_,?_⟩
 ·rw[World.rangeAt_drew];exact YZ h.blk (by show w.heap.size+1+1≠w.heap.size;omega) _
 ·rw[World.there_drew];exact QL h.res _ _
 ·rw[World.rangeAt_drew];have:=YC h.ws ws.length (.int .u32 v);rw[Lp,Qfn,QaS hl] at this;exact this
 ·rw[World.there_drew];exact QL h.wst _ _
theorem Sch.drew{w wr:World}{blk ws:List Int}(h:Sch w wr blk ws):Sch w wr.drew blk ws :=
 ⟨h.below.drew,by rw[World.rangeAt_drew];exact h.blk,by rw[World.there_drew];exact h.res,by rw[World.rangeAt_drew];exact h.ws,by rw[World.there_drew];exact h.wst⟩
theorem Sch.start(w:World)(blk:List Int)(z1 z2:Array Value)(t1 t2 t3:TypeId)(h1:z1.size=64)(h2:z2=(cW (pad [])).toArray) :
  Sch w (((w.alloc (.cells (cB blk).toArray t1)).alloc (.cells z1 t2)).alloc (.cells z2 t3)) blk []:=by
 subst h2;have r1:=Qq w (cB blk) t1;have t2':=Qm (w.alloc (.cells (cB blk).toArray t1)) z1 t2 64 (by omega)
 have r3:=Qq ((w.alloc (.cells (cB blk).toArray t1)).alloc (.cells z1 t2)) (cW (pad [])) t3;have t3':=Qm ((w.alloc (.cells (cB blk).toArray t1)).alloc (.cells z1 t2)) (cW (pad [])).toArray t3 64 (by simp[Ql,pad])
 simp only[World.size_alloc] at r1 t2' r3 t3';exact⟨(((Lc _ _).alloc (Lb _) _).alloc (by simp) _).alloc (by simp;omega) _,World.rangeAt_alloc (World.rangeAt_alloc r1 _) _,World.there_alloc t2' _,r3,t3'⟩
theorem QdL(blk:List Int)(hl:blk.length=64)(w:World) :
  Calls prog 248 #[.agg (cB blk).toArray] w fun e w'=>e= .returned (.agg (cW (Q1 blk 48)).toArray)∧Below w.heap.size w w':=by
 go_enter func248,ntmps248;go_wp2
 go_loopg [8] 16 (fun g i wr=> ∃k:Nat,k<=16∧g=16-k∧i= .int .i64 k∧Sch w wr blk (sch0 blk k))
 case atStart=>go_light;exact⟨0,Lm _,rfl,rfl,Sch.start w blk _ _ _ _ _ rfl rfl⟩
 case round=>
  obtain⟨k,hk,rfl,rfl,hs⟩:=hrel
  by_cases hlt:k<16
  ·have hk0:(0:Int)<=(k:Int):=Lf _;have hk8:(k:Int)<16:=by omega
   obtain⟨m,hm⟩:∃m:Nat,4*k=m:=⟨_,rfl⟩;obtain⟨m1,hm1⟩:∃m1:Nat,m+1=m1:=⟨_,rfl⟩;obtain⟨m2,hm2⟩:∃m2:Nat,m+2=m2:=⟨_,rfl⟩;obtain⟨m3,hm3⟩:∃m3:Nat,m+3=m3:=⟨_,rfl⟩;have e0:IntKind.i64.wrap (4*(k:Int))=(m:Int):=by rw[QV _ (by omega) (by omega)];omega
   have e1:IntKind.i64.wrap ((m:Int)+1)=(m1:Int):=by rw[QV _ (by omega) (by omega)];omega
   have e2:IntKind.i64.wrap ((m:Int)+2)=(m2:Int):=by rw[QV _ (by omega) (by omega)];omega
   have e3:IntKind.i64.wrap ((m:Int)+3)=(m3:Int):=by rw[QV _ (by omega) (by omega)];omega
   have b0:(0:Int)<=(m:Int):=Lf _;have b1:(0:Int)<=(m1:Int):=Lf _;have b2:(0:Int)<=(m2:Int):=Lf _;have b3:(0:Int)<=(m3:Int):=Lf _;have d0:(m:Int)<64:=by omega
   have d1:(m1:Int)<64:=by omega
   have d2:(m2:Int)<64:=by omega
   have d3:(m3:Int)<64:=by omega
   have dk:(k:Int)<64:=by omega
   have c0:wr.cell? ⟨w.heap.size,m,none⟩=some (.int .u8 (blk.getD m 0)):=Yg hs.blk (by omega)
   have c1:wr.cell? ⟨w.heap.size,m1,none⟩=some (.int .u8 (blk.getD m1 0)):=Yg hs.blk (by omega)
   have c2:wr.cell? ⟨w.heap.size,m2,none⟩=some (.int .u8 (blk.getD m2 0)):=Yg hs.blk (by omega)
   have c3:wr.cell? ⟨w.heap.size,m3,none⟩=some (.int .u8 (blk.getD m3 0)):=Yg hs.blk (by omega)
   have st:wr.cell? ⟨w.heap.size+1+1,k,none⟩=some (.int .u32 ((pad (sch0 blk k)).getD k 0)):=Qd hs.ws (by rw[Y8 (by rw[OZ];omega)];omega)
   have sf:wr.frozen? ⟨w.heap.size+1+1,k,none⟩=false:=by have:=(hs.wst k (by omega)).2;rwa [Lp] at this
   have HF:Hid (∀v,Sch w (wr.setCell ⟨w.heap.size+1+1,k,none⟩ (.int .u32 v)).drew blk (sch0 blk k++[v])):=fun v=>by
    have:=hs.step (by rw[OZ];omega) v
    rwa [OZ] at this
   have HV:Hid (sch0 blk (k+1)=sch0 blk k++[Qfa (blk.getD m 0) (blk.getD m1 0) (blk.getD m2 0) (blk.getD m3 0)]):=by
    show _=_
    subst hm hm1 hm2 hm3;rfl
   clear hs hm hm1 hm2 hm3;generalize (pad (sch0 blk k)).getD k 0=z at *;generalize blk.getD m 0=x0 at *;generalize blk.getD m1 0=x1 at *;generalize blk.getD m2 0=x2 at *;generalize blk.getD m3 0=x3 at *;go_wp2
   go_region_held3 (fun w'=>w'.cell? ⟨w.heap.size,m,none⟩=some (.int .u8 x0)∧w'.cell? ⟨w.heap.size,m1,none⟩=some (.int .u8 x1)∧w'.cell? ⟨w.heap.size,m2,none⟩=some (.int .u8 x2)∧w'.cell? ⟨w.heap.size,m3,none⟩=some (.int .u8 x3)) (first|assumption|(refine⟨?_,?_,?_,?_⟩ <;> first|assumption|(refine QhN (by assumption) ?_;show w.heap.size+1+1≠w.heap.size;omega))) (fail)
   go_wp2
   go_roundg (16-(k+1))
   case rel=>
    go_light;refine⟨k+1,by omega,rfl,by go_num,?_⟩
    rw[HV.out];exact HF.out _
   case measure=>go_light;omega
  ·obtain rfl:k=16:=by omega
   clear hk hlt;go_wp2
   go_loopg [5] 48 (fun g i wr=> ∃k:Nat,k<=48∧g=48-k∧i= .int .i64 ((16+k:Nat):Int)∧Sch w wr blk (Q1 blk k))
   case atStart=>go_light;exact⟨0,Lm _,rfl,rfl,hs⟩
   case round=>
    clear hs;obtain⟨k,hk,rfl,rfl,hs⟩:=hrel
    by_cases hlt:k<48
    ·obtain⟨t,ht⟩:∃t:Nat,16+k=t:=⟨_,rfl⟩;obtain⟨k1,hk1⟩:∃k1:Nat,k+1=k1:=⟨_,rfl⟩;obtain⟨k9,hk9⟩:∃k9:Nat,k+9=k9:=⟨_,rfl⟩;obtain⟨k14,hk14⟩:∃k14:Nat,k+14=k14:=⟨_,rfl⟩;rw[ht];have e0:IntKind.i64.wrap ((t:Int)-16)=(k:Int):=by rw[QV _ (by omega) (by omega)];omega
     have e1:IntKind.i64.wrap ((t:Int)-15)=(k1:Int):=by rw[QV _ (by omega) (by omega)];omega
     have e2:IntKind.i64.wrap ((t:Int)-7)=(k9:Int):=by rw[QV _ (by omega) (by omega)];omega
     have e3:IntKind.i64.wrap ((t:Int)-2)=(k14:Int):=by rw[QV _ (by omega) (by omega)];omega
     have b0:(0:Int)<=(k:Int):=Lf _;have b1:(0:Int)<=(k1:Int):=Lf _;have b2:(0:Int)<=(k9:Int):=Lf _;have b3:(0:Int)<=(k14:Int):=Lf _;have bt:(0:Int)<=(t:Int):=Lf _;have d0:(k:Int)<64:=by omega
     have d1:(k1:Int)<64:=by omega
     have d2:(k9:Int)<64:=by omega
     have d3:(k14:Int)<64:=by omega
     have dt:(t:Int)<64:=by omega
     have hlen:=O0 blk k;have hpl:(pad (Q1 blk k)).length=64:=Y8 (by omega)
     have c0:wr.cell? ⟨w.heap.size+1+1,k,none⟩=some (.int .u32 ((Q1 blk k).getD k 0)):=by rw[<-Q6];exact Qd hs.ws (by omega)
     have c1:wr.cell? ⟨w.heap.size+1+1,k1,none⟩=some (.int .u32 ((Q1 blk k).getD k1 0)):=by rw[<-Q6];exact Qd hs.ws (by omega)
     have c2:wr.cell? ⟨w.heap.size+1+1,k9,none⟩=some (.int .u32 ((Q1 blk k).getD k9 0)):=by rw[<-Q6];exact Qd hs.ws (by omega)
     have c3:wr.cell? ⟨w.heap.size+1+1,k14,none⟩=some (.int .u32 ((Q1 blk k).getD k14 0)):=by rw[<-Q6];exact Qd hs.ws (by omega)
     have st:wr.cell? ⟨w.heap.size+1+1,t,none⟩=some (.int .u32 ((Q1 blk k).getD t 0)):=by rw[<-Q6];exact Qd hs.ws (by omega)
     have sf:wr.frozen? ⟨w.heap.size+1+1,t,none⟩=false:=by have:=(hs.wst t (by omega)).2;rwa [Lp] at this
     have HF:Hid (∀v,Sch w (wr.drew.setCell ⟨w.heap.size+1+1,t,none⟩ (.int .u32 v)).drew blk (Q1 blk k++[v])):=fun v=>by
      have:=hs.drew.step (by omega) v
      rwa [hlen,ht] at this
     have HV:Hid (Q1 blk (k+1)=Q1 blk k++[QgY ((Q1 blk k).getD k 0) ((Q1 blk k).getD k1 0) ((Q1 blk k).getD k9 0) ((Q1 blk k).getD k14 0)]):=by
      show _=_
      subst hk1 hk9 hk14;rfl
     have HT:Hid (16+k=t):=ht;have N0:k≠t:=by omega
     have N1:k1≠t:=by omega
     have N2:k9≠t:=by omega
     have N3:k14≠t:=by omega
     clear hs ht hk1 hk9 hk14 hlen hpl hl;generalize (Q1 blk k).getD k 0=x0 at *;generalize (Q1 blk k).getD k1 0=x1 at *;generalize (Q1 blk k).getD k9 0=x2 at *;generalize (Q1 blk k).getD k14 0=x3 at *;generalize (Q1 blk k).getD t 0=z at *;go_wp2
     go_region_held3 (fun w'=>w'.cell? ⟨w.heap.size+1+1,k1,none⟩=some (.int .u32 x1)∧w'.cell? ⟨w.heap.size+1+1,k14,none⟩=some (.int .u32 x3)) (first|assumption|(refine⟨?_,?_⟩ <;> first|assumption|(rw[Ns];assumption))) (fail)
     go_wp2
     go_region_held3 (fun w'=>w'.cell? ⟨w.heap.size+1+1,k,none⟩=some (.int .u32 x0)∧w'.cell? ⟨w.heap.size+1+1,k9,none⟩=some (.int .u32 x2)) (first|assumption|(refine⟨?_,?_⟩ <;> first|assumption|(rw[Ns];assumption)|(refine QjG ?_ ?_ <;> assumption))) (first|(go_at_call 249;refine(Om _ _ _ (by decide) (by decide)).mono ?_;rintro e w' ⟨rfl,rfl⟩))
     go_wp2
     go_roundg (48-(k+1))
     case rel=>
      go_light;refine⟨k+1,by omega,rfl,?_,?_⟩
      ·have:=HT.out;go_num
      rw[HV.out];exact HF.out _
     case measure=>go_light;omega
    ·obtain rfl:k=48:=by omega
     have hlen:=O0 blk 48;have hws:=hs.ws;rw[QeL hlen] at hws;have hres:=hs.res;have hbel:=hs.below;have hi:(prog.info? 141).map (·.size)=some (cW (Q1 blk 48)).length:=by rw[Ql,hlen];exact QdO
     have hi2:(prog.info? 141).map (·.size)=some (cW (Q1 blk 48)).toArray.size:=by simpa using hi
     have hre2:wr.there (w.heap.size+1) 0 (cW (Q1 blk 48)).toArray.size:=by
      have hsz:(cW (Q1 blk 48)).toArray.size=64:=by simp[Ql,hlen]
      rw[hsz];exact hres
     clear hs hk hlt hl hlen;generalize hE:Q1 blk 48=ws at *;have HE:Hid (Q1 blk 48=ws):=hE;clear hE
     go_wp2_with (first|(refine wpList_load_mid rfl 141 _ rfl (w.heap.size+1+1) 0 rfl (cW ws) _ hws underlying141 rfl hi ?_)|(refine wpList_store_mid rfl 141 _ _ rfl (w.heap.size+1) 0 (cW ws).toArray rfl rfl hre2 hi2 (all_oneCell_toArray (Ua ws)) ?_))
     refine LA (v := .agg (cW ws).toArray) ?_ rfl ⟨by rw[HE.out],?_⟩
     ·refine QZ results248 _ _ (w.heap.size+1) 0 (cW ws) (.array 64 55) ?_ ?_ underlying141 rfl hi
      ·rfl
      ·go_light
       simpa using World.rangeAt_setCells_same _ _ _ _ (by simpa using hre2)
     ·go_light;exact Qo hbel (by omega) _ _
structure S8 where
 a:Int
 b:Int
 c:Int
 d:Int
 e:Int
 f:Int
 g:Int
 h:Int
def oneI(e f g h r w:Int):Int :=
 IntKind.u32.wrap (IntKind.u32.wrap (IntKind.u32.wrap (IntKind.u32.wrap (h+bits .xor .u32 (bits .xor .u32 (Ue e 6) (Ue e 11)) (Ue e 25))+bits .xor .u32 (bits .and .u32 e f) (bits .and .u32 (bits .xor .u32 IntKind.u32.max e) g))+r)+w)
def twoI(a b c:Int):Int :=
 IntKind.u32.wrap (bits .xor .u32 (bits .xor .u32 (Ue a 2) (Ue a 13)) (Ue a 22)+bits .xor .u32 (bits .xor .u32 (bits .and .u32 a b) (bits .and .u32 a c)) (bits .and .u32 b c))
def S8.rnd(v:S8)(r w:Int):S8 :=
 { a:=IntKind.u32.wrap (oneI v.e v.f v.g v.h r w+twoI v.a v.b v.c),b:=v.a,c:=v.b,d:=v.c,e:=IntKind.u32.wrap (v.d+oneI v.e v.f v.g v.h r w),f:=v.e,g:=v.f,h:=v.g }
def rnds(v:S8)(rs ws:List Int):Nat->S8
 | 0=>v
 | k+1=>(rnds v rs ws k).rnd (rs.getD k 0) (ws.getD k 0)
def Uv(st:List Int):S8:=⟨st.getD 0 0,st.getD 1 0,st.getD 2 0,st.getD 3 0,st.getD 4 0,st.getD 5 0,st.getD 6 0,st.getD 7 0⟩
def sumI(s v:S8):List Int :=
 [IntKind.u32.wrap (s.a+v.a),IntKind.u32.wrap (s.b+v.b),IntKind.u32.wrap (s.c+v.c),IntKind.u32.wrap (s.d+v.d),IntKind.u32.wrap (s.e+v.e),IntKind.u32.wrap (s.f+v.f),IntKind.u32.wrap (s.g+v.g),IntKind.u32.wrap (s.h+v.h)]
def YJ(rs st blk:List Int):List Int:=sumI (Uv st) (rnds (Uv st) rs (Q1 blk 48) 64)
theorem QhG(rs st blk:List Int):(YJ rs st blk).length=8:=rfl
theorem Qbz{st:List Int}(h:st.length=8):∃s0 s1 s2 s3 s4 s5 s6 s7,st=[s0,s1,s2,s3,s4,s5,s6,s7]:=by
 match st,h with
 | [s0,s1,s2,s3,s4,s5,s6,s7],_=>exact⟨s0,s1,s2,s3,s4,s5,s6,s7,rfl⟩
theorem Qas:(prog.info? 304).map (·.size)=some 64:=by kernel_rfl
theorem Uf:(prog.info? 85).map (·.size)=some 8:=by kernel_rfl
structure Fo(w wr:World)(st ws rs:List Int)(N:Nat):Prop where
 below:Below w.heap.size w wr
 st:wr.rangeAt w.heap.size 0 (cW st)
 res:wr.there (w.heap.size+1+1) 0 8
 ws:wr.rangeAt N 0 (cW ws)
 rs:wr.rangeAt 2 0 (cW rs)
theorem Fo.drew{w wr:World}{st ws rs:List Int}{N:Nat}(h:Fo w wr st ws rs N):Fo w wr.drew st ws rs N :=
 ⟨h.below.drew,by rw[World.rangeAt_drew];exact h.st,by rw[World.there_drew];exact h.res,by rw[World.rangeAt_drew];exact h.ws,by rw[World.rangeAt_drew];exact h.rs⟩
theorem Fo.start{w w':World}{st blk ws rs:List Int}{t1 t2 t3 t4:TypeId}{z:List Int}(hz:z.length=8){z2:Array Value}(hz2:z2.size=64)(hwl:ws.length=64)(hrl:rs.length=64)
  (hr:w.rangeAt 2 0 (cW rs))
  (hb:Below (((w.alloc (.cells (cW st).toArray t1)).alloc (.cells (cB blk).toArray t2)).alloc (.cells (cW z).toArray t3)).heap.size (((w.alloc (.cells (cW st).toArray t1)).alloc (.cells (cB blk).toArray t2)).alloc (.cells (cW z).toArray t3)) w') :
  Fo w ((w'.alloc (.cells z2 t4)).setCells w'.heap.size 0 (cW ws)) st ws rs w'.heap.size:=by
 have hlt:2<w.heap.size:=QH hr (by intro h;have:=LZ List.length h;simp[Ql,hrl] at this)
 have hN:w.heap.size+3<=w'.heap.size:=by have:=hb.size;simp at this;omega
 have hbw2:Below w.heap.size w w':=((((Lc _ _).alloc (Lb _) _).alloc (by simp) _).alloc (by simp;omega) _).trans (hb.mono (by simp;omega))
 have h1:w'.rangeAt w.heap.size 0 (cW st):=Qk hb (by simp;omega) (World.rangeAt_alloc (World.rangeAt_alloc (Qq _ _ _) _) _)
 have h2:w'.there (w.heap.size+1+1) 0 8:=by
  have:=Qm ((w.alloc (.cells (cW st).toArray t1)).alloc (.cells (cB blk).toArray t2)) (cW z).toArray t3 8 (by simp[Ql,hz])
  simp only[World.size_alloc] at this;exact QS hb (by simp) this
 have h3:w'.rangeAt 2 0 (cW rs):=Qk hbw2 hlt hr;refine⟨Qo (hbw2.alloc (by omega) _) (by omega) _ _,?_,?_,?_,?_⟩
 ·exact World.rangeAt_setCells_apart (World.rangeAt_alloc h1 _) _ _ _ (Or.inl (by omega))
 ·exact World.there_setCells (World.there_alloc h2 _) _ _ _
 ·exact World.rangeAt_setCells_same _ _ _ _ (Qm _ _ _ _ (by rw[Ql,hwl,hz2];exact Lb _))
 ·exact World.rangeAt_setCells_apart (World.rangeAt_alloc h3 _) _ _ _ (Or.inl (by omega))
theorem Og(st:List Int)(hst:st.length=8)(blk:List Int)(hl:blk.length=64)(w:World)(rs:List Int)(hrl:rs.length=64)(hr:w.rangeAt 2 0 (cW rs)) :
  Calls prog 237 #[.agg (cW st).toArray,.agg (cB blk).toArray] w fun e w'=>e= .returned (.agg (cW (YJ rs st blk)).toArray)∧Below w.heap.size w w':=by
 obtain⟨s0,s1,s2,s3,s4,s5,s6,s7,rfl⟩:=Qbz hst;clear hst;obtain⟨ws,hws⟩:∃ws,ws=Q1 blk 48:=⟨_,rfl⟩;have hwl:ws.length=64:=by rw[hws,O0]
 have hsched:=fun w=>QdL blk hl w
 rw[<-hws] at hsched;have HE:Hid (ws=Q1 blk 48):=hws;clear hws;have hi35:(prog.info? 304).map (·.size)=some (cB blk).length:=by rw[Qu,hl];exact Qas
 have hi46:(prog.info? 141).map (·.size)=some (cW ws).toArray.size:=by rw[IU,Ql,hwl];exact QdO
 have hsz:(cW ws).toArray.size=64:=by simp[Ql,hwl]
 have r1:=fun o=>World.rangeAt_alloc (Qq (w.alloc o) (cB blk) 304)
 simp only[World.size_alloc] at r1
 go_enter func237,ntmps237
 go_wp2_with (first|(refine wpList_load_mid rfl 304 _ rfl (w.heap.size+1) 0 rfl (cB blk) _ (r1 _ _) underlying304 rfl hi35 ?_)|(go_at_call 248;refine(hsched _).mono ?_;rintro e w' ⟨rfl,hbw⟩)|(refine wpList_store_mid rfl 141 _ _ rfl _ 0 (cW ws).toArray rfl rfl ?_ hi46 (all_oneCell_toArray (Ua ws)) ?_;exact Qm _ _ _ _ (by rw[hsz];exact Lb 64)))
 go_simp
 have hFo:=Fo.start (z:=[0,0,0,0,0,0,0,0]) (z2:=(cW (List.replicate 64 0)).toArray) (t4:=141) rfl rfl hwl hrl hr hbw;clear hbw r1 hsched;replace hFo:Fo w ((w'.alloc (.cells Za 141)).setCells w'.heap.size 0 (cW ws)) [s0,s1,s2,s3,s4,s5,s6,s7] ws rs w'.heap.size:=hFo;generalize ((w'.alloc (.cells Za 141)).setCells w'.heap.size 0 (cW ws))=W2 at *;generalize w'.heap.size=N at *;clear w';have c0:W2.cell? ⟨w.heap.size,0,none⟩=some (.int .u32 s0):=Qd hFo.st (i:=0) (by simp)
 have c1:W2.cell? ⟨w.heap.size,1,none⟩=some (.int .u32 s1):=Qd hFo.st (i:=1) (by simp)
 have c2:W2.cell? ⟨w.heap.size,2,none⟩=some (.int .u32 s2):=Qd hFo.st (i:=2) (by simp)
 have c3:W2.cell? ⟨w.heap.size,3,none⟩=some (.int .u32 s3):=Qd hFo.st (i:=3) (by simp)
 have c4:W2.cell? ⟨w.heap.size,4,none⟩=some (.int .u32 s4):=Qd hFo.st (i:=4) (by simp)
 have c5:W2.cell? ⟨w.heap.size,5,none⟩=some (.int .u32 s5):=Qd hFo.st (i:=5) (by simp)
 have c6:W2.cell? ⟨w.heap.size,6,none⟩=some (.int .u32 s6):=Qd hFo.st (i:=6) (by simp)
 have c7:W2.cell? ⟨w.heap.size,7,none⟩=some (.int .u32 s7):=Qd hFo.st (i:=7) (by simp)
 go_region_held3 (fun w'=>w'.cell? ⟨w.heap.size,0,none⟩=some (.int .u32 s0)∧w'.cell? ⟨w.heap.size,1,none⟩=some (.int .u32 s1)∧w'.cell? ⟨w.heap.size,2,none⟩=some (.int .u32 s2)∧w'.cell? ⟨w.heap.size,3,none⟩=some (.int .u32 s3)) (first|assumption|(refine⟨?_,?_,?_,?_⟩ <;> first|assumption|(rw[Ns];assumption))) (fail)
 go_wp2
 go_region_held3 (fun w'=>w'.cell? ⟨w.heap.size,4,none⟩=some (.int .u32 s4)∧w'.cell? ⟨w.heap.size,5,none⟩=some (.int .u32 s5)∧w'.cell? ⟨w.heap.size,6,none⟩=some (.int .u32 s6)∧w'.cell? ⟨w.heap.size,7,none⟩=some (.int .u32 s7)) (first|assumption|(refine⟨?_,?_,?_,?_⟩ <;> first|assumption|(rw[Ns];assumption))) (fail)
 clear c0 c1 c2 c3 c4 c5 c6 c7;go_wp2
 go_loopg [6,7,8,9,10,11,12,13,35] 64 (fun gk a b c d e f g h i wr=> ∃(k:Nat) (v:S8),k<=64∧gk=64-k∧i= .int .i64 k∧Hid (v=rnds (Uv [s0,s1,s2,s3,s4,s5,s6,s7]) rs ws k)∧a= .int .u32 v.a∧b= .int .u32 v.b∧c= .int .u32 v.c∧d= .int .u32 v.d∧e= .int .u32 v.e∧f= .int .u32 v.f∧g= .int .u32 v.g∧h= .int .u32 v.h∧Fo w wr [s0,s1,s2,s3,s4,s5,s6,s7] ws rs N)
 case atStart=>go_light;exact⟨0,Uv [s0,s1,s2,s3,s4,s5,s6,s7],Lm _,rfl,rfl,rfl,rfl,rfl,rfl,rfl,rfl,rfl,rfl,rfl,hFo.drew.drew⟩
 case round=>
  clear hFo;obtain⟨k,v,hk,rfl,rfl,hv,rfl,rfl,rfl,rfl,rfl,rfl,rfl,rfl,hFo⟩:=hrel
  by_cases hlt:k<64
  ·have hk0:(0:Int)<=(k:Int):=Lf _;have hk8:(k:Int)<64:=by omega
   have cr:=Qd hFo.rs (i:=k) (by omega)
   have cw:=Qd hFo.ws (i:=k) (by omega)
   have HV:Hid (∀v',v'=v.rnd (rs.getD k 0) (ws.getD k 0)->v'=rnds (Uv [s0,s1,s2,s3,s4,s5,s6,s7]) rs ws (k+1)):=fun v' h=>by
    rw[h,show v=rnds (Uv [s0,s1,s2,s3,s4,s5,s6,s7]) rs ws k from hv];rfl
   have HF:Hid (Fo w wr.drew [s0,s1,s2,s3,s4,s5,s6,s7] ws rs N):=hFo.drew;clear hFo hv;generalize rs.getD k 0=r at *;generalize ws.getD k 0=x at *;obtain⟨a,b,c,d,e,f,g,h⟩:=v
   dsimp only at *
   go_wp2
   go_region_held3 (fun w'=>w'.cell? ⟨2,k,none⟩=some (.int .u32 r)∧w'.cell? ⟨N,k,none⟩=some (.int .u32 x)) (first|assumption|(refine⟨?_,?_⟩ <;> first|assumption|(rw[Ns];assumption))) (first|(go_at_call 249;refine(Om _ _ _ (by decide) (by decide)).mono ?_;rintro e w' ⟨rfl,rfl⟩))
   go_wp2_with (go_at_call 249;refine(Om _ _ _ (by decide) (by decide)).mono ?_;rintro e w' ⟨rfl,rfl⟩)
   go_roundg (64-(k+1))
   case rel=>go_light;refine⟨k+1,_,by omega,rfl,by go_num,HV.out _ rfl,?_,rfl,rfl,rfl,?_,rfl,rfl,rfl,HF.out⟩ <;> simp only[S8.rnd,oneI,twoI,IntKind.wrap_u32']
   case measure=>go_light;omega
  ·obtain rfl:k=64:=by omega
   clear hk hlt;have c0:wr.cell? ⟨w.heap.size,0,none⟩=some (.int .u32 s0):=Qd hFo.st (i:=0) (by simp)
   have c1:wr.cell? ⟨w.heap.size,1,none⟩=some (.int .u32 s1):=Qd hFo.st (i:=1) (by simp)
   have c2:wr.cell? ⟨w.heap.size,2,none⟩=some (.int .u32 s2):=Qd hFo.st (i:=2) (by simp)
   have c3:wr.cell? ⟨w.heap.size,3,none⟩=some (.int .u32 s3):=Qd hFo.st (i:=3) (by simp)
   have c4:wr.cell? ⟨w.heap.size,4,none⟩=some (.int .u32 s4):=Qd hFo.st (i:=4) (by simp)
   have c5:wr.cell? ⟨w.heap.size,5,none⟩=some (.int .u32 s5):=Qd hFo.st (i:=5) (by simp)
   have c6:wr.cell? ⟨w.heap.size,6,none⟩=some (.int .u32 s6):=Qd hFo.st (i:=6) (by simp)
   have c7:wr.cell? ⟨w.heap.size,7,none⟩=some (.int .u32 s7):=Qd hFo.st (i:=7) (by simp)
   have hres:=hFo.res;have hbel:=hFo.below;clear hFo;have HV:Hid (YJ rs [s0,s1,s2,s3,s4,s5,s6,s7] blk=sumI ⟨s0,s1,s2,s3,s4,s5,s6,s7⟩ v):=by
    show _=_
    rw[show v=_ from hv,show ws=_ from HE];rfl
   clear hv;obtain⟨a,b,c,d,e,f,g,h⟩:=v
   dsimp only at *
   go_wp2_with (refine wpList_store_mid rfl 85 _ _ rfl (w.heap.size+1+1) 0 (cW [_,_,_,_,_,_,_,_]).toArray rfl rfl hres Uf (all_oneCell_toArray (Ua _)) ?_)
   refine LA (v := .agg (cW (sumI ⟨s0,s1,s2,s3,s4,s5,s6,s7⟩ ⟨a,b,c,d,e,f,g,h⟩)).toArray) ?_ rfl ⟨by rw[HV.out],?_⟩
   ·refine QZ results237 _ _ (w.heap.size+1+1) 0 (cW (sumI ⟨s0,s1,s2,s3,s4,s5,s6,s7⟩ ⟨a,b,c,d,e,f,g,h⟩)) (.array 8 55) ?_ ?_ underlying85 rfl Uf
    ·rfl
    ·go_light;simp only[sumI,IntKind.wrap_u32'];exact World.rangeAt_setCells_same _ _ _ _ hres
   ·go_light;exact Qo hbel (by omega) _ _
def Jo(blk:List Int)(u:Nat):List Int:=(blk.set u 128).take (u+1)++List.replicate (64-(u+1)) 0
def Y3(l:List Int)(b:Int):Nat->List Int
 | 0=>l
 | k+1=>(Y3 l b k).set (63-k) (IntKind.u8.wrap (b/2^(8*k)))
def QX(rs st blk:List Int)(n:Nat):List Int :=
 if 55<n%64 then YJ rs (YJ rs st (Jo blk (n%64))) (Y3 (List.replicate 64 0) (IntKind.u64.wrap ((n:Int)*8)) 8)
 else YJ rs st (Y3 (Jo blk (n%64)) (IntKind.u64.wrap ((n:Int)*8)) 8)
theorem Qjf{blk:List Int}(h:blk.length=64){u:Nat}(hu:u<64):(Jo blk u).length=64:=by
 simp[Jo,h];omega
theorem Qba(rs st blk:List Int)(n:Nat):(QX rs st blk n).length=8:=by
 unfold QX;split <;> rfl
structure Hs(w:World)(p:Nat)(st blk:List Int)(n:Nat):Prop where
 stl:st.length=8
 blkl:blk.length=64
 st:w.rangeAt p 0 (cW st)
 blk:w.rangeAt p 8 (cB blk)
 len:w.cell? ⟨p,72,none⟩=some (.int .u64 n)
 there:w.there p 0 73
theorem Hs.lt{w:World}{p:Nat}{st blk:List Int}{n:Nat}(h:Hs w p st blk n):p<w.heap.size:=Ll _ _ h.len
theorem Hs.later{w w':World}{p B:Nat}{st blk:List Int}{n:Nat}(h:Hs w p st blk n)(hb:Below B w w')(hp:p<B):Hs w' p st blk n :=
 ⟨h.stl,h.blkl,Qk hb hp h.st,Qk hb hp h.blk,by rw[hb.cell (p:=⟨p,72,none⟩) hp];exact h.len,QS hb hp h.there⟩
theorem QfY{w:World}{b:Nat}{cs:List Value}(h:w.rangeAt b 0 cs)(k:Nat)(vs:List Value)(hk:k+vs.length=cs.length)(ht:w.there b k vs.length) :
  (w.setCells b k vs).rangeAt b 0 (cs.take k++vs):=fun j u hu=>by
 rw[Lp]
 by_cases hj:j<k
 ·rw[LG (by simp;omega),Nf,Lo hj] at hu
  rw[World.cell?_setCells_out b vs k w ⟨b,j,none⟩ (fun _ _=>Or.inl hj)]
  have:=h j u hu
  rwa [Lp] at this
 ·rw[LW (by simp;omega)] at hu
  have hlen:(cs.take k).length=k:=by simp;omega
  rw[hlen] at hu;have hlt:j-k<vs.length:=(List.getElem?_eq_some_iff.1 hu).1
  have:=World.cell?_setCells_in b vs k w (fun i hi=>(ht i hi).1) (j-k) hlt
  rw[show k+(j-k)=j by omega] at this
  rw[this,<-hu,Ld hlt]
structure Cl(w wc:World)(st last:List Int)(bs bl:Nat):Prop where
 stl:st.length=8
 lastl:last.length=64
 below:Below w.heap.size w wc
 hbs:w.heap.size+1<=bs
 hbl:w.heap.size+1<=bl
 ne:bs≠bl
 st:wc.rangeAt bs 0 (cW st)
 stt:wc.there bs 0 8
 last:wc.rangeAt bl 0 (cB last)
 lastt:wc.there bl 0 64
 res:wc.there w.heap.size 0 8
theorem Cl.one(w:World)(st blk:List Int)(hs:st.length=8)(hb:blk.length=64)(z:List Int)(hz:z.length=8)(z2:List Int)(hz2:z2.length=64)(t1 t2 t3:TypeId) :
  Cl w ((((w.alloc (.cells (cW z).toArray t1)).alloc (.cells (cW st).toArray t2)).alloc (.cells (cB z2).toArray t3)).drew.setCells (w.heap.size+1+1) 0 (cB blk)) st blk (w.heap.size+1) (w.heap.size+1+1):=by
 have r1:=Qq (w.alloc (.cells (cW z).toArray t1)) (cW st) t2;have q1:=Qm (w.alloc (.cells (cW z).toArray t1)) (cW st).toArray t2 8 (by simp[Ql,hs])
 have q2:=Qm ((w.alloc (.cells (cW z).toArray t1)).alloc (.cells (cW st).toArray t2)) (cB z2).toArray t3 64 (by simp[Qu,hz2])
 have q0:=Qm w (cW z).toArray t1 8 (by simp[Ql,hz])
 simp only[World.size_alloc] at r1 q1 q2 q0;refine⟨hs,hb,Qo ((((Lc _ _).alloc (Lb _) _).alloc (by simp) _).alloc (by simp;omega) _).drew (by omega) _ _,by omega,by omega,by omega,?_,?_,?_,?_,?_⟩
 ·exact World.rangeAt_setCells_apart (by rw[World.rangeAt_drew];exact World.rangeAt_alloc r1 _) _ _ _ (Or.inl (by omega))
 ·exact World.there_setCells (by rw[World.there_drew];exact World.there_alloc q1 _) _ _ _
 ·exact World.rangeAt_setCells_same _ _ _ _ (by rw[World.there_drew,Qu,hb];exact q2)
 ·exact World.there_setCells (by rw[World.there_drew];exact q2) _ _ _
 ·exact World.there_setCells (by rw[World.there_drew];exact World.there_alloc (World.there_alloc q0 _) _) _ _ _
theorem Cl.two(w:World)(st blk:List Int)(hs:st.length=8)(hb:blk.length=64)(z:List Int)(hz:z.length=8)(z2:List Int)(hz2:z2.length=64)(t1 t2 t3:TypeId) :
  Cl w ((((w.alloc (.cells (cW z).toArray t1)).alloc (.cells (cB z2).toArray t3)).alloc (.cells (cW st).toArray t2)).drew.setCells (w.heap.size+1) 0 (cB blk)) st blk (w.heap.size+1+1) (w.heap.size+1):=by
 have r1:=Qq ((w.alloc (.cells (cW z).toArray t1)).alloc (.cells (cB z2).toArray t3)) (cW st) t2;have q1:=Qm ((w.alloc (.cells (cW z).toArray t1)).alloc (.cells (cB z2).toArray t3)) (cW st).toArray t2 8 (by simp[Ql,hs])
 have q2:=Qm (w.alloc (.cells (cW z).toArray t1)) (cB z2).toArray t3 64 (by simp[Qu,hz2])
 have q0:=Qm w (cW z).toArray t1 8 (by simp[Ql,hz])
 simp only[World.size_alloc] at r1 q1 q2 q0;refine⟨hs,hb,Qo ((((Lc _ _).alloc (Lb _) _).alloc (by simp) _).alloc (by simp;omega) _).drew (by omega) _ _,by omega,by omega,by omega,?_,?_,?_,?_,?_⟩
 ·exact World.rangeAt_setCells_apart (by rw[World.rangeAt_drew];exact r1) _ _ _ (Or.inl (by omega))
 ·exact World.there_setCells (by rw[World.there_drew];exact q1) _ _ _
 ·exact World.rangeAt_setCells_same _ _ _ _ (by rw[World.there_drew,Qu,hb];exact World.there_alloc q2 _)
 ·exact World.there_setCells (by rw[World.there_drew];exact World.there_alloc q2 _) _ _ _
 ·exact World.there_setCells (by rw[World.there_drew];exact World.there_alloc (World.there_alloc q0 _) _) _ _ _
theorem Cl.set{w wc:World}{st last:List Int}{bs bl:Nat}(h:Cl w wc st last bs bl)(i:Nat)(v:Int):Cl w (wc.setCell ⟨bl,i,none⟩ (.int .u8 v)) st (last.set i v) bs bl:=by
 have hbl:=h.hbl;refine⟨h.stl,by rw[IK];exact h.lastl,h.below.setCell (by show w.heap.size<=bl;omega) _,h.hbs,h.hbl,h.ne,YZ h.st (Ne.symm h.ne) _,QL h.stt _ _,?_,QL h.lastt _ _,QL h.res _ _⟩
 have:=YC h.last i (.int .u8 v)
 rwa [Lp,Qfm] at this
theorem Cl.rest{w wc:World}{st last:List Int}{bs bl:Nat}(h:Cl w wc st last bs bl)(k:Nat)(hk:k<=64) :
  Cl w (wc.setCells bl k (List.replicate (64-k) (.int .u8 0))) st (last.take k++List.replicate (64-k) 0) bs bl:=by
 have hbl:=h.hbl;have hl:=h.lastl;have e:(List.replicate (64-k) (Value.int .u8 0))=cB (List.replicate (64-k) 0):=by simp[cB]
 refine⟨h.stl,by simp[hl];omega,Qo h.below (by omega) _ _,h.hbs,h.hbl,h.ne,World.rangeAt_setCells_apart h.st _ _ _ (Or.inl h.ne),World.there_setCells h.stt _ _ _,?_,World.there_setCells h.lastt _ _ _,World.there_setCells h.res _ _ _⟩
 have:=QfY h.last k (List.replicate (64-k) (Value.int .u8 0)) (by simp[Qu,hl];omega) (fun j hj=>by
  have:=h.lastt (k+j) (by simp at hj;omega)
  rwa [Lp] at this)
 rw[e] at this;rw[e]
 simpa [cB,List.map_take] using this
theorem Cl.later{w wc w':World}{st last:List Int}{bs bl:Nat}(h:Cl w wc st last bs bl)(hb:Below wc.heap.size wc w'):Cl w w' st last bs bl:=by
 have h1:=JI h.stt (by decide)
 have h2:=JI h.lastt (by decide)
 have h3:=JI h.res (by decide)
 exact⟨h.stl,h.lastl,h.below.trans (hb.mono (by omega)),h.hbs,h.hbl,h.ne,Qk hb h1 h.st,QS hb h1 h.stt,Qk hb h2 h.last,QS hb h2 h.lastt,QS hb h3 h.res⟩
theorem Cl.storeSt{w wc:World}{st last:List Int}{bs bl:Nat}(h:Cl w wc st last bs bl)(st':List Int)(hs:st'.length=8):Cl w (wc.setCells bs 0 (cW st')) st' last bs bl:=by
 have hbs:=h.hbs;exact⟨hs,h.lastl,Qo h.below (by omega) _ _,h.hbs,h.hbl,h.ne,World.rangeAt_setCells_same _ _ _ _ (by rw[Ql,hs];exact h.stt),World.there_setCells h.stt _ _ _,World.rangeAt_setCells_apart h.last _ _ _ (Or.inl (Ne.symm h.ne)),World.there_setCells h.lastt _ _ _,World.there_setCells h.res _ _ _⟩
theorem Cl.storeLast{w wc:World}{st last:List Int}{bs bl:Nat}(h:Cl w wc st last bs bl)(l':List Int)(hs:l'.length=64):Cl w (wc.setCells bl 0 (cB l')) st l' bs bl:=by
 have hbl:=h.hbl;exact⟨h.stl,hs,Qo h.below (by omega) _ _,h.hbs,h.hbl,h.ne,World.rangeAt_setCells_apart h.st _ _ _ (Or.inl h.ne),World.there_setCells h.stt _ _ _,World.rangeAt_setCells_same _ _ _ _ (by rw[Qu,hs];exact h.lastt),World.there_setCells h.lastt _ _ _,World.there_setCells h.res _ _ _⟩
end Go.Proofs.YtoblgjledefdbabGreatDoor
