/- Own work. -/
import Derived.Test.YtoblgjledefdbaaGreatDoorQcA
import Derived.Test.YtoblgjledefdbaaGreatDoorProg
import Derived.WalkSpells
import Derived.Deep.RegionHeld3
import Derived.Deep.DrawnRows
import Derived.Deep.Light
set_option maxRecDepth 100000
set_option maxHeartbeats 2000000
namespace Go.Proofs.YtoblgjledefdbaaGreatDoor
open Go.RowKit
attribute [local go_sem ↓] Go.wp_at_zero Go.wp_at_succ
open Go.Proofs.Tryz
def Uo(x n:Int):Int:=bits .or .u32 (x/2^n.toNat) (IntKind.u32.wrap (x*2^(32-n).toNat))
def cB(l:List Int):List Value:=l.map (Value.int .u8)
def cW(l:List Int):List Value:=l.map (Value.int .u32)
def pad(l:List Int):List Int:=l++List.replicate (64-l.length) 0
def Qe3(a b c d:Int):Int :=
 bits .or .u32 (bits .or .u32 (bits .or .u32 (IntKind.u32.wrap (IntKind.u32.wrap a*16777216)) (IntKind.u32.wrap (IntKind.u32.wrap b*65536))) (IntKind.u32.wrap (IntKind.u32.wrap c*256))) (IntKind.u32.wrap d)
def sch0(blk:List Int):Nat->List Int
 | 0=>[]
 | k+1=>sch0 blk k++[Qe3 (blk.getD (4*k) 0) (blk.getD (4*k+1) 0) (blk.getD (4*k+2) 0) (blk.getD (4*k+3) 0)]
def QgP(a x c y:Int):Int :=
 IntKind.u32.wrap (IntKind.u32.wrap (IntKind.u32.wrap (a+bits .xor .u32 (bits .xor .u32 (Uo x 7) (Uo x 18)) (x/8))+c)+bits .xor .u32 (bits .xor .u32 (Uo y 17) (Uo y 19)) (y/1024))
def Yd(blk:List Int):Nat->List Int
 | 0=>sch0 blk 16
 | k+1=>Yd blk k++[QgP ((Yd blk k).getD k 0) ((Yd blk k).getD (k+1) 0) ((Yd blk k).getD (k+9) 0) ((Yd blk k).getD (k+14) 0)]
theorem OY(blk:List Int)(k:Nat):(sch0 blk k).length=k:=by
 induction k with
 | zero=>rfl
 | succ k ih=>simp[sch0,ih]
theorem OZ(blk:List Int)(k:Nat):(Yd blk k).length=16+k:=by
 induction k with
 | zero=>exact OY _ _
 | succ k ih=>simp only[Yd,List.length_append,ih,List.length_cons,List.length_nil];omega
theorem Ud{l:List Int}(h:l.length<=64):(pad l).length=64:=by simp[pad];omega
theorem Qey{l:List Int}(h:l.length=64):pad l=l:=by simp[pad,h]
theorem Yg(l:List Int)(i:Nat):(pad l).getD i 0=l.getD i 0:=by
 unfold pad;simp only[List.getD_eq_getElem?_getD]
 by_cases h:i<l.length
 ·rw[LE h]
 ·rw[LQ (by omega),NQ (l:=l) (by omega),List.getElem?_replicate]
  split <;> rfl
theorem QaT{l:List Int}(h:l.length<64)(v:Int):(pad l).set l.length v=pad (l++[v]):=by
 unfold pad;rw[Nf _ _ (La _)];obtain⟨n,hn⟩:∃n,64-l.length=n+1:=⟨64-l.length-1,by omega⟩
 have hn':64-(l++[v]).length=n:=by simp;omega
 rw[hn,hn',I1];simp
theorem Qgm{w:World}{b o:Nat}{l:List Int}(h:w.rangeAt b o (cB l)){i:Nat}(hi:i<l.length):w.cell? ⟨b,o+i,none⟩=some (.int .u8 (l.getD i 0)) :=
 h i _ (by simp[cB,List.getElem?_eq_getElem hi,List.getD_eq_getElem?_getD])
theorem QlR{w:World}{b o:Nat}{l:List Int}(h:w.rangeAt b o (cW l)){i:Nat}(hi:i<l.length):w.cell? ⟨b,o+i,none⟩=some (.int .u32 (l.getD i 0)) :=
 h i _ (by simp[cW,List.getElem?_eq_getElem hi,List.getD_eq_getElem?_getD])
theorem Ym{w:World}{b:Nat}{l:List Int}(h:w.rangeAt b 0 (cB l)){i:Nat}(hi:i<l.length):w.cell? ⟨b,i,none⟩=some (.int .u8 (l.getD i 0)):=by
 have:=Qgm h hi;rwa [Lo] at this
theorem Qc{w:World}{b:Nat}{l:List Int}(h:w.rangeAt b 0 (cW l)){i:Nat}(hi:i<l.length):w.cell? ⟨b,i,none⟩=some (.int .u32 (l.getD i 0)):=by
 have:=QlR h hi;rwa [Lo] at this
theorem Qn(l:List Int):(cW l).length=l.length:=by simp[cW]
theorem Qu(l:List Int):(cB l).length=l.length:=by simp[cB]
theorem Uj(l:List Int):∀v∈cW l,v.oneCell'=true:=by
 intro v hv;obtain⟨x,_,rfl⟩:=List.mem_map.1 hv;rfl
theorem Qac(l:List Int):∀v∈cB l,v.oneCell'=true:=by
 intro v hv;obtain⟨x,_,rfl⟩:=List.mem_map.1 hv;rfl
theorem Qfe(l:List Int)(i:Nat)(v:Int):(cW l).set i (.int .u32 v)=cW (l.set i v):=by simp[cW,List.map_set]
theorem Qfd(l:List Int)(i:Nat)(v:Int):(cB l).set i (.int .u8 v)=cB (l.set i v):=by simp[cB,List.map_set]
theorem QhG{w:World}{a b:Addr}{v u:Value}(h:w.cell? b=some u)(hne:a.block≠b.block):(w.setCell a v).drew.cell? b=some u:=by
 rw[Nn,Lq _ _ _ _ (fun e=>hne (by rw[e]))];exact h
theorem YG{w:World}{b o:Nat}{cs:List Value}(h:w.rangeAt b o cs)(i:Nat)(v:Value):(w.setCell ⟨b,o+i,none⟩ v).rangeAt b o (cs.set i v):=fun j u hu=>by
 by_cases e:i=j
 ·subst e;rw[List.getElem?_set_self'] at hu
  cases hc:cs[i]? with
  | none=>simp[hc] at hu
  | some c=>
   simp[hc] at hu;subst hu;exact LX _ _ _ (h i c hc)
 ·rw[IF e] at hu;rw[Lq _ _ _ _ (fun e'=>e (by have:=LW Addr.off e';simp at this;omega))]
  exact h j u hu
theorem Y1{w:World}{b o:Nat}{cs:List Value}(h:w.rangeAt b o cs){a:Addr}(ha:a.block≠b)(v:Value):(w.setCell a v).rangeAt b o cs:=fun j u hu=>by
 rw[Lq _ _ _ _ (fun e=>ha (by rw[e]))];exact h j u hu
theorem QM{w:World}{b o n:Nat}(h:w.there b o n)(a:Addr)(v:Value):(w.setCell a v).there b o n:=fun j hj=>by
 obtain⟨h1,h2⟩:=h j hj;refine⟨?_,by rw[NR];exact h2⟩
 obtain⟨u,hu⟩:=Option.isSome_iff_exists.1 h1
 by_cases e:a=⟨b,o+j,none⟩
 ·subst e;rw[LX _ _ _ hu];rfl
 ·rw[Lq _ _ _ _ e,hu];rfl
theorem Qm{w w':World}{B b o:Nat}{cs:List Value}(hb:Below B w w')(hlt:b<B)(h:w.rangeAt b o cs):w'.rangeAt b o cs:=fun j u hu=>by
 rw[hb.cell (p:=⟨b,o+j,none⟩) hlt];exact h j u hu
theorem Q3{w w':World}{B b o n:Nat}(hb:Below B w w')(hlt:b<B)(h:w.there b o n):w'.there b o n:=fun j hj=>by
 rw[hb.cell (p:=⟨b,o+j,none⟩) hlt,hb.frozen (p:=⟨b,o+j,none⟩) hlt];exact h j hj
theorem Qp(w:World)(cs:List Value)(t:TypeId):(w.alloc (.cells cs.toArray t)).rangeAt w.heap.size 0 cs:=fun j u hu=>by
 rw[Nq,Lo];simpa using hu
theorem Qo(w:World)(cs:Array Value)(t:TypeId)(n:Nat)(hn:n<=cs.size):(w.alloc (.cells cs t)).there w.heap.size 0 n:=fun j hj=>by
 refine⟨?_,Wr _ _ _ _⟩
 rw[Nq,Lo,Nh (by omega)];rfl
theorem JC{w:World}{b o n:Nat}(h:w.there b o n)(hn:0<n):b<w.heap.size:=by
 obtain⟨u,hu⟩:=Option.isSome_iff_exists.1 (h 0 hn).1;exact Lf _ _ hu
theorem QI{w:World}{b o:Nat}{cs:List Value}(h:w.rangeAt b o cs)(hn:cs≠[]):b<w.heap.size:=by
 cases cs with
 | nil=>exact absurd rfl hn
 | cons c r=>exact Lf _ _ (h 0 c rfl)
theorem Q6(x:Int)(h0:0<=x)(h1:x<9223372036854775808):IntKind.i64.wrap x=x:=by
 simp[IntKind.wrap,IntKind.bits,IntKind.signed];omega
theorem Oh(x n:Int)(w:World)(hn:0<n)(hn':n<32) :
  Calls prog 412 #[.int .u32 x,.int .u64 n] w fun e w'=>e= .returned (.int .u32 (Uo x n))∧w'=w:=by
 go_enter func412,ntmps412;go_wp2
 go_ret
 refine⟨?_,rfl⟩
 simp only[Uo,IntKind.wrap_u32']
 rfl
theorem Qe2(n:Int)(w:World)(b:Nat)(h0:0<=n)(hc:w.cell? ⟨b,72,none⟩=some (.int .u64 n)) :
  Calls prog 403 #[Pq b] w fun e w'=>e= .returned (.int .i64 (n%64))∧w'=w:=by
 go_enter func403,ntmps403;go_wp2
 go_ret
 exact⟨rfl,rfl⟩
theorem QjW{w:World}{b i j:Nat}{v u:Value}(h:w.cell? ⟨b,i,none⟩=some u)(hne:i≠j):(w.setCell ⟨b,j,none⟩ v).drew.cell? ⟨b,i,none⟩=some u:=by
 rw[Nn,Lq _ _ _ _ (fun e=>hne (by have:=LW Addr.off e;simpa using this.symm))];exact h
theorem Qdw:(prog.info? 403).map (·.size)=some 64:=by kernel_rfl
theorem Q9{P:Program}{fn:Func}{p:Tmp}{ty:TypeId}(h:fn.results=#[.cell p ty])(tmps:Array Value)(w:World)(b o:Nat)(cs:List Value)(d:TypeDesc)
  (hp:tmps.getD p undef= .pointer (some ⟨b,o,none⟩)) (hc:w.rangeAt b o cs)
  (hu:P.underlying ty=some d) (hd:d.isRow=true) (hi:(P.info? ty).map (·.size)=some cs.length) :
  (results fn tmps).run P w= .ok (.agg cs.toArray) w:=by
 have hp':tmps[p]?.getD undef= .pointer (some ⟨b,o,none⟩):=by simpa using hp
 simp[results,h,hp',asAddr,run_loadVar_mid w b o ty cs d hc hu hd hi]
theorem Qq{B:Nat}{a w:World}(h:Below B a w){b:Nat}(hb:B<=b)(o:Nat)(cs:List Value):Below B a (w.setCells b o cs):=by
 induction cs generalizing o w with
 | nil=>exact h
 | cons c r ih=>exact ih (h.setCell (p:=⟨b,o,none⟩) hb c) (o+1)
structure Sch(w wr:World)(blk ws:List Int):Prop where
 below:Below w.heap.size w wr
 blk:wr.rangeAt w.heap.size 0 (cB blk)
 res:wr.there (w.heap.size+1) 0 64
 ws:wr.rangeAt (w.heap.size+1+1) 0 (cW (pad ws))
 wst:wr.there (w.heap.size+1+1) 0 64
theorem Sch.step{w wr:World}{blk ws:List Int}(h:Sch w wr blk ws)(hl:ws.length<64)(v:Int) :
  Sch w (wr.setCell ⟨w.heap.size+1+1,ws.length,none⟩ (.int .u32 v)).drew blk (ws++[v]):=by
 refine⟨(h.below.setCell (by show w.heap.size<=w.heap.size+1+1;omega) _).drew,?_,?_,?_,?_⟩
 ·rw[World.rangeAt_drew];exact Y1 h.blk (by show w.heap.size+1+1≠w.heap.size;omega) _
 ·rw[World.there_drew];exact QM h.res _ _
 ·rw[World.rangeAt_drew];have:=YG h.ws ws.length (.int .u32 v);rw[Lo,Qfe,QaT hl] at this;exact this
 ·rw[World.there_drew];exact QM h.wst _ _
theorem Sch.drew{w wr:World}{blk ws:List Int}(h:Sch w wr blk ws):Sch w wr.drew blk ws :=
 ⟨h.below.drew,by rw[World.rangeAt_drew];exact h.blk,by rw[World.there_drew];exact h.res,by rw[World.rangeAt_drew];exact h.ws,by rw[World.there_drew];exact h.wst⟩
theorem Sch.start(w:World)(blk:List Int)(z1 z2:Array Value)(t1 t2 t3:TypeId)(h1:z1.size=64)(h2:z2=(cW (pad [])).toArray) :
  Sch w (((w.alloc (.cells (cB blk).toArray t1)).alloc (.cells z1 t2)).alloc (.cells z2 t3)) blk []:=by
 subst h2;have r1:=Qp w (cB blk) t1;have t2':=Qo (w.alloc (.cells (cB blk).toArray t1)) z1 t2 64 (by omega)
 have r3:=Qp ((w.alloc (.cells (cB blk).toArray t1)).alloc (.cells z1 t2)) (cW (pad [])) t3;have t3':=Qo ((w.alloc (.cells (cB blk).toArray t1)).alloc (.cells z1 t2)) (cW (pad [])).toArray t3 64 (by simp[Qn,pad])
 simp only[World.size_alloc] at r1 t2' r3 t3';exact⟨(((Lb _ _).alloc (La _) _).alloc (by simp) _).alloc (by simp;omega) _,World.rangeAt_alloc (World.rangeAt_alloc r1 _) _,World.there_alloc t2' _,r3,t3'⟩
theorem Qdu(blk:List Int)(hl:blk.length=64)(w:World) :
  Calls prog 411 #[.agg (cB blk).toArray] w fun e w'=>e= .returned (.agg (cW (Yd blk 48)).toArray)∧Below w.heap.size w w':=by
 go_enter func411,ntmps411;go_wp2
 go_loopg [8] 16 (fun g i wr=> ∃k:Nat,k<=16∧g=16-k∧i= .int .i64 k∧Sch w wr blk (sch0 blk k))
 case atStart=>go_light;exact⟨0,Ln _,rfl,rfl,Sch.start w blk _ _ _ _ _ rfl rfl⟩
 case round=>
  obtain⟨k,hk,rfl,rfl,hs⟩:=hrel
  by_cases hlt:k<16
  ·have hk0:(0:Int)<=(k:Int):=Lh _;have hk8:(k:Int)<16:=by omega
   obtain⟨m,hm⟩:∃m:Nat,4*k=m:=⟨_,rfl⟩;obtain⟨m1,hm1⟩:∃m1:Nat,m+1=m1:=⟨_,rfl⟩;obtain⟨m2,hm2⟩:∃m2:Nat,m+2=m2:=⟨_,rfl⟩;obtain⟨m3,hm3⟩:∃m3:Nat,m+3=m3:=⟨_,rfl⟩;have e0:IntKind.i64.wrap (4*(k:Int))=(m:Int):=by rw[Q6 _ (by omega) (by omega)];omega
   have e1:IntKind.i64.wrap ((m:Int)+1)=(m1:Int):=by rw[Q6 _ (by omega) (by omega)];omega
   have e2:IntKind.i64.wrap ((m:Int)+2)=(m2:Int):=by rw[Q6 _ (by omega) (by omega)];omega
   have e3:IntKind.i64.wrap ((m:Int)+3)=(m3:Int):=by rw[Q6 _ (by omega) (by omega)];omega
   have b0:(0:Int)<=(m:Int):=Lh _;have b1:(0:Int)<=(m1:Int):=Lh _;have b2:(0:Int)<=(m2:Int):=Lh _;have b3:(0:Int)<=(m3:Int):=Lh _;have d0:(m:Int)<64:=by omega
   have d1:(m1:Int)<64:=by omega
   have d2:(m2:Int)<64:=by omega
   have d3:(m3:Int)<64:=by omega
   have dk:(k:Int)<64:=by omega
   have c0:wr.cell? ⟨w.heap.size,m,none⟩=some (.int .u8 (blk.getD m 0)):=Ym hs.blk (by omega)
   have c1:wr.cell? ⟨w.heap.size,m1,none⟩=some (.int .u8 (blk.getD m1 0)):=Ym hs.blk (by omega)
   have c2:wr.cell? ⟨w.heap.size,m2,none⟩=some (.int .u8 (blk.getD m2 0)):=Ym hs.blk (by omega)
   have c3:wr.cell? ⟨w.heap.size,m3,none⟩=some (.int .u8 (blk.getD m3 0)):=Ym hs.blk (by omega)
   have st:wr.cell? ⟨w.heap.size+1+1,k,none⟩=some (.int .u32 ((pad (sch0 blk k)).getD k 0)):=Qc hs.ws (by rw[Ud (by rw[OY];omega)];omega)
   have sf:wr.frozen? ⟨w.heap.size+1+1,k,none⟩=false:=by have:=(hs.wst k (by omega)).2;rwa [Lo] at this
   have HF:Hid (∀v,Sch w (wr.setCell ⟨w.heap.size+1+1,k,none⟩ (.int .u32 v)).drew blk (sch0 blk k++[v])):=fun v=>by
    have:=hs.step (by rw[OY];omega) v
    rwa [OY] at this
   have HV:Hid (sch0 blk (k+1)=sch0 blk k++[Qe3 (blk.getD m 0) (blk.getD m1 0) (blk.getD m2 0) (blk.getD m3 0)]):=by
    show _=_
    subst hm hm1 hm2 hm3;rfl
   clear hs hm hm1 hm2 hm3;generalize (pad (sch0 blk k)).getD k 0=z at *;generalize blk.getD m 0=x0 at *;generalize blk.getD m1 0=x1 at *;generalize blk.getD m2 0=x2 at *;generalize blk.getD m3 0=x3 at *;go_wp2
   go_region_held3 (fun w'=>w'.cell? ⟨w.heap.size,m,none⟩=some (.int .u8 x0)∧w'.cell? ⟨w.heap.size,m1,none⟩=some (.int .u8 x1)∧w'.cell? ⟨w.heap.size,m2,none⟩=some (.int .u8 x2)∧w'.cell? ⟨w.heap.size,m3,none⟩=some (.int .u8 x3)) (first|assumption|(refine⟨?_,?_,?_,?_⟩ <;> first|assumption|(refine QhG (by assumption) ?_;show w.heap.size+1+1≠w.heap.size;omega))) (fail)
   go_wp2
   go_roundg (16-(k+1))
   case rel=>
    go_light;refine⟨k+1,by omega,rfl,by go_num,?_⟩
    rw[HV.out];exact HF.out _
   case measure=>go_light;omega
  ·obtain rfl:k=16:=by omega
   clear hk hlt;go_wp2
   go_loopg [5] 48 (fun g i wr=> ∃k:Nat,k<=48∧g=48-k∧i= .int .i64 ((16+k:Nat):Int)∧Sch w wr blk (Yd blk k))
   case atStart=>go_light;exact⟨0,Ln _,rfl,rfl,hs⟩
   case round=>
    clear hs;obtain⟨k,hk,rfl,rfl,hs⟩:=hrel
    by_cases hlt:k<48
    ·obtain⟨t,ht⟩:∃t:Nat,16+k=t:=⟨_,rfl⟩;obtain⟨k1,hk1⟩:∃k1:Nat,k+1=k1:=⟨_,rfl⟩;obtain⟨k9,hk9⟩:∃k9:Nat,k+9=k9:=⟨_,rfl⟩;obtain⟨k14,hk14⟩:∃k14:Nat,k+14=k14:=⟨_,rfl⟩;rw[ht];have e0:IntKind.i64.wrap ((t:Int)-16)=(k:Int):=by rw[Q6 _ (by omega) (by omega)];omega
     have e1:IntKind.i64.wrap ((t:Int)-15)=(k1:Int):=by rw[Q6 _ (by omega) (by omega)];omega
     have e2:IntKind.i64.wrap ((t:Int)-7)=(k9:Int):=by rw[Q6 _ (by omega) (by omega)];omega
     have e3:IntKind.i64.wrap ((t:Int)-2)=(k14:Int):=by rw[Q6 _ (by omega) (by omega)];omega
     have b0:(0:Int)<=(k:Int):=Lh _;have b1:(0:Int)<=(k1:Int):=Lh _;have b2:(0:Int)<=(k9:Int):=Lh _;have b3:(0:Int)<=(k14:Int):=Lh _;have bt:(0:Int)<=(t:Int):=Lh _;have d0:(k:Int)<64:=by omega
     have d1:(k1:Int)<64:=by omega
     have d2:(k9:Int)<64:=by omega
     have d3:(k14:Int)<64:=by omega
     have dt:(t:Int)<64:=by omega
     have hlen:=OZ blk k;have hpl:(pad (Yd blk k)).length=64:=Ud (by omega)
     have c0:wr.cell? ⟨w.heap.size+1+1,k,none⟩=some (.int .u32 ((Yd blk k).getD k 0)):=by rw[<-Yg];exact Qc hs.ws (by omega)
     have c1:wr.cell? ⟨w.heap.size+1+1,k1,none⟩=some (.int .u32 ((Yd blk k).getD k1 0)):=by rw[<-Yg];exact Qc hs.ws (by omega)
     have c2:wr.cell? ⟨w.heap.size+1+1,k9,none⟩=some (.int .u32 ((Yd blk k).getD k9 0)):=by rw[<-Yg];exact Qc hs.ws (by omega)
     have c3:wr.cell? ⟨w.heap.size+1+1,k14,none⟩=some (.int .u32 ((Yd blk k).getD k14 0)):=by rw[<-Yg];exact Qc hs.ws (by omega)
     have st:wr.cell? ⟨w.heap.size+1+1,t,none⟩=some (.int .u32 ((Yd blk k).getD t 0)):=by rw[<-Yg];exact Qc hs.ws (by omega)
     have sf:wr.frozen? ⟨w.heap.size+1+1,t,none⟩=false:=by have:=(hs.wst t (by omega)).2;rwa [Lo] at this
     have HF:Hid (∀v,Sch w (wr.drew.setCell ⟨w.heap.size+1+1,t,none⟩ (.int .u32 v)).drew blk (Yd blk k++[v])):=fun v=>by
      have:=hs.drew.step (by omega) v
      rwa [hlen,ht] at this
     have HV:Hid (Yd blk (k+1)=Yd blk k++[QgP ((Yd blk k).getD k 0) ((Yd blk k).getD k1 0) ((Yd blk k).getD k9 0) ((Yd blk k).getD k14 0)]):=by
      show _=_
      subst hk1 hk9 hk14;rfl
     have HT:Hid (16+k=t):=ht;have N0:k≠t:=by omega
     have N1:k1≠t:=by omega
     have N2:k9≠t:=by omega
     have N3:k14≠t:=by omega
     clear hs ht hk1 hk9 hk14 hlen hpl hl;generalize (Yd blk k).getD k 0=x0 at *;generalize (Yd blk k).getD k1 0=x1 at *;generalize (Yd blk k).getD k9 0=x2 at *;generalize (Yd blk k).getD k14 0=x3 at *;generalize (Yd blk k).getD t 0=z at *;go_wp2
     go_region_held3 (fun w'=>w'.cell? ⟨w.heap.size+1+1,k1,none⟩=some (.int .u32 x1)∧w'.cell? ⟨w.heap.size+1+1,k14,none⟩=some (.int .u32 x3)) (first|assumption|(refine⟨?_,?_⟩ <;> first|assumption|(rw[Nn];assumption))) (fail)
     go_wp2
     go_region_held3 (fun w'=>w'.cell? ⟨w.heap.size+1+1,k,none⟩=some (.int .u32 x0)∧w'.cell? ⟨w.heap.size+1+1,k9,none⟩=some (.int .u32 x2)) (first|assumption|(refine⟨?_,?_⟩ <;> first|assumption|(rw[Nn];assumption)|(refine QjW ?_ ?_ <;> assumption))) (first|(go_at_call 412;refine(Oh _ _ _ (by decide) (by decide)).mono ?_;rintro e w' ⟨rfl,rfl⟩))
     go_wp2
     go_roundg (48-(k+1))
     case rel=>
      go_light;refine⟨k+1,by omega,rfl,?_,?_⟩
      ·have:=HT.out;go_num
      rw[HV.out];exact HF.out _
     case measure=>go_light;omega
    ·obtain rfl:k=48:=by omega
     have hlen:=OZ blk 48;have hws:=hs.ws;rw[Qey hlen] at hws;have hres:=hs.res;have hbel:=hs.below;have hi:(prog.info? 403).map (·.size)=some (cW (Yd blk 48)).length:=by rw[Qn,hlen];exact Qdw
     have hi2:(prog.info? 403).map (·.size)=some (cW (Yd blk 48)).toArray.size:=by simpa using hi
     have hre2:wr.there (w.heap.size+1) 0 (cW (Yd blk 48)).toArray.size:=by
      have hsz:(cW (Yd blk 48)).toArray.size=64:=by simp[Qn,hlen]
      rw[hsz];exact hres
     clear hs hk hlt hl hlen;generalize hE:Yd blk 48=ws at *;have HE:Hid (Yd blk 48=ws):=hE;clear hE
     go_wp2_with (first|(refine wpList_load_mid rfl 403 _ rfl (w.heap.size+1+1) 0 rfl (cW ws) _ hws underlying403 rfl hi ?_)|(refine wpList_store_mid rfl 403 _ _ rfl (w.heap.size+1) 0 (cW ws).toArray rfl rfl hre2 hi2 (all_oneCell_toArray (Uj ws)) ?_))
     refine LK (v := .agg (cW ws).toArray) ?_ rfl ⟨by rw[HE.out],?_⟩
     ·refine Q9 results411 _ _ (w.heap.size+1) 0 (cW ws) (.array 64 110) ?_ ?_ underlying403 rfl hi
      ·rfl
      ·go_light
       simpa using World.rangeAt_setCells_same _ _ _ _ (by simpa using hre2)
     ·go_light;exact Qq hbel (by omega) _ _
structure S8 where
 a:Int
 b:Int
 c:Int
 d:Int
 e:Int
 f:Int
 g:Int
 h:Int
def oneI(e f g h r w:Int):Int :=
 IntKind.u32.wrap (IntKind.u32.wrap (IntKind.u32.wrap (IntKind.u32.wrap (h+bits .xor .u32 (bits .xor .u32 (Uo e 6) (Uo e 11)) (Uo e 25))+bits .xor .u32 (bits .and .u32 e f) (bits .and .u32 (bits .xor .u32 IntKind.u32.max e) g))+r)+w)
def twoI(a b c:Int):Int :=
 IntKind.u32.wrap (bits .xor .u32 (bits .xor .u32 (Uo a 2) (Uo a 13)) (Uo a 22)+bits .xor .u32 (bits .xor .u32 (bits .and .u32 a b) (bits .and .u32 a c)) (bits .and .u32 b c))
def S8.rnd(v:S8)(r w:Int):S8 :=
 { a:=IntKind.u32.wrap (oneI v.e v.f v.g v.h r w+twoI v.a v.b v.c),b:=v.a,c:=v.b,d:=v.c,e:=IntKind.u32.wrap (v.d+oneI v.e v.f v.g v.h r w),f:=v.e,g:=v.f,h:=v.g }
def rnds(v:S8)(rs ws:List Int):Nat->S8
 | 0=>v
 | k+1=>(rnds v rs ws k).rnd (rs.getD k 0) (ws.getD k 0)
def UF(st:List Int):S8:=⟨st.getD 0 0,st.getD 1 0,st.getD 2 0,st.getD 3 0,st.getD 4 0,st.getD 5 0,st.getD 6 0,st.getD 7 0⟩
def sumI(s v:S8):List Int :=
 [IntKind.u32.wrap (s.a+v.a),IntKind.u32.wrap (s.b+v.b),IntKind.u32.wrap (s.c+v.c),IntKind.u32.wrap (s.d+v.d),IntKind.u32.wrap (s.e+v.e),IntKind.u32.wrap (s.f+v.f),IntKind.u32.wrap (s.g+v.g),IntKind.u32.wrap (s.h+v.h)]
def YN(rs st blk:List Int):List Int:=sumI (UF st) (rnds (UF st) rs (Yd blk 48) 64)
theorem Qhy(rs st blk:List Int):(YN rs st blk).length=8:=rfl
theorem Qbs{st:List Int}(h:st.length=8):∃s0 s1 s2 s3 s4 s5 s6 s7,st=[s0,s1,s2,s3,s4,s5,s6,s7]:=by
 match st,h with
 | [s0,s1,s2,s3,s4,s5,s6,s7],_=>exact⟨s0,s1,s2,s3,s4,s5,s6,s7,rfl⟩
theorem Qav:(prog.info? 184).map (·.size)=some 64:=by kernel_rfl
theorem Up:(prog.info? 346).map (·.size)=some 8:=by kernel_rfl
structure Fo(w wr:World)(st ws rs:List Int)(N:Nat):Prop where
 below:Below w.heap.size w wr
 st:wr.rangeAt w.heap.size 0 (cW st)
 res:wr.there (w.heap.size+1+1) 0 8
 ws:wr.rangeAt N 0 (cW ws)
 rs:wr.rangeAt 3 0 (cW rs)
theorem Fo.drew{w wr:World}{st ws rs:List Int}{N:Nat}(h:Fo w wr st ws rs N):Fo w wr.drew st ws rs N :=
 ⟨h.below.drew,by rw[World.rangeAt_drew];exact h.st,by rw[World.there_drew];exact h.res,by rw[World.rangeAt_drew];exact h.ws,by rw[World.rangeAt_drew];exact h.rs⟩
theorem Fo.start{w w':World}{st blk ws rs:List Int}{t1 t2 t3 t4:TypeId}{z:List Int}(hz:z.length=8){z2:Array Value}(hz2:z2.size=64)(hwl:ws.length=64)(hrl:rs.length=64)
  (hr:w.rangeAt 3 0 (cW rs))
  (hb:Below (((w.alloc (.cells (cW st).toArray t1)).alloc (.cells (cB blk).toArray t2)).alloc (.cells (cW z).toArray t3)).heap.size (((w.alloc (.cells (cW st).toArray t1)).alloc (.cells (cB blk).toArray t2)).alloc (.cells (cW z).toArray t3)) w') :
  Fo w ((w'.alloc (.cells z2 t4)).setCells w'.heap.size 0 (cW ws)) st ws rs w'.heap.size:=by
 have hlt:3<w.heap.size:=QI hr (by intro h;have:=LW List.length h;simp[Qn,hrl] at this)
 have hN:w.heap.size+3<=w'.heap.size:=by have:=hb.size;simp at this;omega
 have hbw2:Below w.heap.size w w':=((((Lb _ _).alloc (La _) _).alloc (by simp) _).alloc (by simp;omega) _).trans (hb.mono (by simp;omega))
 have h1:w'.rangeAt w.heap.size 0 (cW st):=Qm hb (by simp;omega) (World.rangeAt_alloc (World.rangeAt_alloc (Qp _ _ _) _) _)
 have h2:w'.there (w.heap.size+1+1) 0 8:=by
  have:=Qo ((w.alloc (.cells (cW st).toArray t1)).alloc (.cells (cB blk).toArray t2)) (cW z).toArray t3 8 (by simp[Qn,hz])
  simp only[World.size_alloc] at this;exact Q3 hb (by simp) this
 have h3:w'.rangeAt 3 0 (cW rs):=Qm hbw2 hlt hr;refine⟨Qq (hbw2.alloc (by omega) _) (by omega) _ _,?_,?_,?_,?_⟩
 ·exact World.rangeAt_setCells_apart (World.rangeAt_alloc h1 _) _ _ _ (Or.inl (by omega))
 ·exact World.there_setCells (World.there_alloc h2 _) _ _ _
 ·exact World.rangeAt_setCells_same _ _ _ _ (Qo _ _ _ _ (by rw[Qn,hwl,hz2];exact La _))
 ·exact World.rangeAt_setCells_apart (World.rangeAt_alloc h3 _) _ _ _ (Or.inl (by omega))
theorem J9(st:List Int)(hst:st.length=8)(blk:List Int)(hl:blk.length=64)(w:World)(rs:List Int)(hrl:rs.length=64)(hr:w.rangeAt 3 0 (cW rs)) :
  Calls prog 404 #[.agg (cW st).toArray,.agg (cB blk).toArray] w fun e w'=>e= .returned (.agg (cW (YN rs st blk)).toArray)∧Below w.heap.size w w':=by
 obtain⟨s0,s1,s2,s3,s4,s5,s6,s7,rfl⟩:=Qbs hst;clear hst;obtain⟨ws,hws⟩:∃ws,ws=Yd blk 48:=⟨_,rfl⟩;have hwl:ws.length=64:=by rw[hws,OZ]
 have hsched:=fun w=>Qdu blk hl w
 rw[<-hws] at hsched;have HE:Hid (ws=Yd blk 48):=hws;clear hws;have hi35:(prog.info? 184).map (·.size)=some (cB blk).length:=by rw[Qu,hl];exact Qav
 have hi46:(prog.info? 403).map (·.size)=some (cW ws).toArray.size:=by rw[ID,Qn,hwl];exact Qdw
 have hsz:(cW ws).toArray.size=64:=by simp[Qn,hwl]
 have r1:=fun o=>World.rangeAt_alloc (Qp (w.alloc o) (cB blk) 184)
 simp only[World.size_alloc] at r1
 go_enter func404,ntmps404
 go_wp2_with (first|(refine wpList_load_mid rfl 184 _ rfl (w.heap.size+1) 0 rfl (cB blk) _ (r1 _ _) underlying184 rfl hi35 ?_)|(go_at_call 411;refine(hsched _).mono ?_;rintro e w' ⟨rfl,hbw⟩)|(refine wpList_store_mid rfl 403 _ _ rfl _ 0 (cW ws).toArray rfl rfl ?_ hi46 (all_oneCell_toArray (Uj ws)) ?_;exact Qo _ _ _ _ (by rw[hsz];exact La 64)))
 go_simp
 have hFo:=Fo.start (z:=[0,0,0,0,0,0,0,0]) (z2:=(cW (List.replicate 64 0)).toArray) (t4:=403) rfl rfl hwl hrl hr hbw;clear hbw r1 hsched;replace hFo:Fo w ((w'.alloc (.cells Za 403)).setCells w'.heap.size 0 (cW ws)) [s0,s1,s2,s3,s4,s5,s6,s7] ws rs w'.heap.size:=hFo;generalize ((w'.alloc (.cells Za 403)).setCells w'.heap.size 0 (cW ws))=W2 at *;generalize w'.heap.size=N at *;clear w';have c0:W2.cell? ⟨w.heap.size,0,none⟩=some (.int .u32 s0):=Qc hFo.st (i:=0) (by simp)
 have c1:W2.cell? ⟨w.heap.size,1,none⟩=some (.int .u32 s1):=Qc hFo.st (i:=1) (by simp)
 have c2:W2.cell? ⟨w.heap.size,2,none⟩=some (.int .u32 s2):=Qc hFo.st (i:=2) (by simp)
 have c3:W2.cell? ⟨w.heap.size,3,none⟩=some (.int .u32 s3):=Qc hFo.st (i:=3) (by simp)
 have c4:W2.cell? ⟨w.heap.size,4,none⟩=some (.int .u32 s4):=Qc hFo.st (i:=4) (by simp)
 have c5:W2.cell? ⟨w.heap.size,5,none⟩=some (.int .u32 s5):=Qc hFo.st (i:=5) (by simp)
 have c6:W2.cell? ⟨w.heap.size,6,none⟩=some (.int .u32 s6):=Qc hFo.st (i:=6) (by simp)
 have c7:W2.cell? ⟨w.heap.size,7,none⟩=some (.int .u32 s7):=Qc hFo.st (i:=7) (by simp)
 go_region_held3 (fun w'=>w'.cell? ⟨w.heap.size,0,none⟩=some (.int .u32 s0)∧w'.cell? ⟨w.heap.size,1,none⟩=some (.int .u32 s1)∧w'.cell? ⟨w.heap.size,2,none⟩=some (.int .u32 s2)∧w'.cell? ⟨w.heap.size,3,none⟩=some (.int .u32 s3)) (first|assumption|(refine⟨?_,?_,?_,?_⟩ <;> first|assumption|(rw[Nn];assumption))) (fail)
 go_wp2
 go_region_held3 (fun w'=>w'.cell? ⟨w.heap.size,4,none⟩=some (.int .u32 s4)∧w'.cell? ⟨w.heap.size,5,none⟩=some (.int .u32 s5)∧w'.cell? ⟨w.heap.size,6,none⟩=some (.int .u32 s6)∧w'.cell? ⟨w.heap.size,7,none⟩=some (.int .u32 s7)) (first|assumption|(refine⟨?_,?_,?_,?_⟩ <;> first|assumption|(rw[Nn];assumption))) (fail)
 clear c0 c1 c2 c3 c4 c5 c6 c7;go_wp2
 go_loopg [6,7,8,9,10,11,12,13,35] 64 (fun gk a b c d e f g h i wr=> ∃(k:Nat) (v:S8),k<=64∧gk=64-k∧i= .int .i64 k∧Hid (v=rnds (UF [s0,s1,s2,s3,s4,s5,s6,s7]) rs ws k)∧a= .int .u32 v.a∧b= .int .u32 v.b∧c= .int .u32 v.c∧d= .int .u32 v.d∧e= .int .u32 v.e∧f= .int .u32 v.f∧g= .int .u32 v.g∧h= .int .u32 v.h∧Fo w wr [s0,s1,s2,s3,s4,s5,s6,s7] ws rs N)
 case atStart=>go_light;exact⟨0,UF [s0,s1,s2,s3,s4,s5,s6,s7],Ln _,rfl,rfl,rfl,rfl,rfl,rfl,rfl,rfl,rfl,rfl,rfl,hFo.drew.drew⟩
 case round=>
  clear hFo;obtain⟨k,v,hk,rfl,rfl,hv,rfl,rfl,rfl,rfl,rfl,rfl,rfl,rfl,hFo⟩:=hrel
  by_cases hlt:k<64
  ·have hk0:(0:Int)<=(k:Int):=Lh _;have hk8:(k:Int)<64:=by omega
   have cr:=Qc hFo.rs (i:=k) (by omega)
   have cw:=Qc hFo.ws (i:=k) (by omega)
   have HV:Hid (∀v',v'=v.rnd (rs.getD k 0) (ws.getD k 0)->v'=rnds (UF [s0,s1,s2,s3,s4,s5,s6,s7]) rs ws (k+1)):=fun v' h=>by
    rw[h,show v=rnds (UF [s0,s1,s2,s3,s4,s5,s6,s7]) rs ws k from hv];rfl
   have HF:Hid (Fo w wr.drew [s0,s1,s2,s3,s4,s5,s6,s7] ws rs N):=hFo.drew;clear hFo hv;generalize rs.getD k 0=r at *;generalize ws.getD k 0=x at *;obtain⟨a,b,c,d,e,f,g,h⟩:=v
   dsimp only at *
   go_wp2
   go_region_held3 (fun w'=>w'.cell? ⟨3,k,none⟩=some (.int .u32 r)∧w'.cell? ⟨N,k,none⟩=some (.int .u32 x)) (first|assumption|(refine⟨?_,?_⟩ <;> first|assumption|(rw[Nn];assumption))) (first|(go_at_call 412;refine(Oh _ _ _ (by decide) (by decide)).mono ?_;rintro e w' ⟨rfl,rfl⟩))
   go_wp2_with (go_at_call 412;refine(Oh _ _ _ (by decide) (by decide)).mono ?_;rintro e w' ⟨rfl,rfl⟩)
   go_roundg (64-(k+1))
   case rel=>go_light;refine⟨k+1,_,by omega,rfl,by go_num,HV.out _ rfl,?_,rfl,rfl,rfl,?_,rfl,rfl,rfl,HF.out⟩ <;> simp only[S8.rnd,oneI,twoI,IntKind.wrap_u32']
   case measure=>go_light;omega
  ·obtain rfl:k=64:=by omega
   clear hk hlt;have c0:wr.cell? ⟨w.heap.size,0,none⟩=some (.int .u32 s0):=Qc hFo.st (i:=0) (by simp)
   have c1:wr.cell? ⟨w.heap.size,1,none⟩=some (.int .u32 s1):=Qc hFo.st (i:=1) (by simp)
   have c2:wr.cell? ⟨w.heap.size,2,none⟩=some (.int .u32 s2):=Qc hFo.st (i:=2) (by simp)
   have c3:wr.cell? ⟨w.heap.size,3,none⟩=some (.int .u32 s3):=Qc hFo.st (i:=3) (by simp)
   have c4:wr.cell? ⟨w.heap.size,4,none⟩=some (.int .u32 s4):=Qc hFo.st (i:=4) (by simp)
   have c5:wr.cell? ⟨w.heap.size,5,none⟩=some (.int .u32 s5):=Qc hFo.st (i:=5) (by simp)
   have c6:wr.cell? ⟨w.heap.size,6,none⟩=some (.int .u32 s6):=Qc hFo.st (i:=6) (by simp)
   have c7:wr.cell? ⟨w.heap.size,7,none⟩=some (.int .u32 s7):=Qc hFo.st (i:=7) (by simp)
   have hres:=hFo.res;have hbel:=hFo.below;clear hFo;have HV:Hid (YN rs [s0,s1,s2,s3,s4,s5,s6,s7] blk=sumI ⟨s0,s1,s2,s3,s4,s5,s6,s7⟩ v):=by
    show _=_
    rw[show v=_ from hv,show ws=_ from HE];rfl
   clear hv;obtain⟨a,b,c,d,e,f,g,h⟩:=v
   dsimp only at *
   go_wp2_with (refine wpList_store_mid rfl 346 _ _ rfl (w.heap.size+1+1) 0 (cW [_,_,_,_,_,_,_,_]).toArray rfl rfl hres Up (all_oneCell_toArray (Uj _)) ?_)
   refine LK (v := .agg (cW (sumI ⟨s0,s1,s2,s3,s4,s5,s6,s7⟩ ⟨a,b,c,d,e,f,g,h⟩)).toArray) ?_ rfl ⟨by rw[HV.out],?_⟩
   ·refine Q9 results404 _ _ (w.heap.size+1+1) 0 (cW (sumI ⟨s0,s1,s2,s3,s4,s5,s6,s7⟩ ⟨a,b,c,d,e,f,g,h⟩)) (.array 8 110) ?_ ?_ underlying346 rfl Up
    ·rfl
    ·go_light;simp only[sumI,IntKind.wrap_u32'];exact World.rangeAt_setCells_same _ _ _ _ hres
   ·go_light;exact Qq hbel (by omega) _ _
def Jm(blk:List Int)(u:Nat):List Int:=(blk.set u 128).take (u+1)++List.replicate (64-(u+1)) 0
def Y7(l:List Int)(b:Int):Nat->List Int
 | 0=>l
 | k+1=>(Y7 l b k).set (63-k) (IntKind.u8.wrap (b/2^(8*k)))
def Q7(rs st blk:List Int)(n:Nat):List Int :=
 if 55<n%64 then YN rs (YN rs st (Jm blk (n%64))) (Y7 (List.replicate 64 0) (IntKind.u64.wrap ((n:Int)*8)) 8)
 else YN rs st (Y7 (Jm blk (n%64)) (IntKind.u64.wrap ((n:Int)*8)) 8)
theorem Qjq{blk:List Int}(h:blk.length=64){u:Nat}(hu:u<64):(Jm blk u).length=64:=by
 simp[Jm,h];omega
theorem Qa4(rs st blk:List Int)(n:Nat):(Q7 rs st blk n).length=8:=by
 unfold Q7;split <;> rfl
structure Hs(w:World)(p:Nat)(st blk:List Int)(n:Nat):Prop where
 stl:st.length=8
 blkl:blk.length=64
 st:w.rangeAt p 0 (cW st)
 blk:w.rangeAt p 8 (cB blk)
 len:w.cell? ⟨p,72,none⟩=some (.int .u64 n)
 there:w.there p 0 73
theorem Hs.lt{w:World}{p:Nat}{st blk:List Int}{n:Nat}(h:Hs w p st blk n):p<w.heap.size:=Lf _ _ h.len
theorem Hs.later{w w':World}{p B:Nat}{st blk:List Int}{n:Nat}(h:Hs w p st blk n)(hb:Below B w w')(hp:p<B):Hs w' p st blk n :=
 ⟨h.stl,h.blkl,Qm hb hp h.st,Qm hb hp h.blk,by rw[hb.cell (p:=⟨p,72,none⟩) hp];exact h.len,Q3 hb hp h.there⟩
theorem QfN{w:World}{b:Nat}{cs:List Value}(h:w.rangeAt b 0 cs)(k:Nat)(vs:List Value)(hk:k+vs.length=cs.length)(ht:w.there b k vs.length) :
  (w.setCells b k vs).rangeAt b 0 (cs.take k++vs):=fun j u hu=>by
 rw[Lo]
 by_cases hj:j<k
 ·rw[LE (by simp;omega),Nb,Lm hj] at hu
  rw[World.cell?_setCells_out b vs k w ⟨b,j,none⟩ (fun _ _=>Or.inl hj)]
  have:=h j u hu
  rwa [Lo] at this
 ·rw[LQ (by simp;omega)] at hu
  have hlen:(cs.take k).length=k:=by simp;omega
  rw[hlen] at hu;have hlt:j-k<vs.length:=(List.getElem?_eq_some_iff.1 hu).1
  have:=World.cell?_setCells_in b vs k w (fun i hi=>(ht i hi).1) (j-k) hlt
  rw[show k+(j-k)=j by omega] at this
  rw[this,<-hu,Ll hlt]
structure Cl(w wc:World)(st last:List Int)(bs bl:Nat):Prop where
 stl:st.length=8
 lastl:last.length=64
 below:Below w.heap.size w wc
 hbs:w.heap.size+1<=bs
 hbl:w.heap.size+1<=bl
 ne:bs≠bl
 st:wc.rangeAt bs 0 (cW st)
 stt:wc.there bs 0 8
 last:wc.rangeAt bl 0 (cB last)
 lastt:wc.there bl 0 64
 res:wc.there w.heap.size 0 8
theorem Cl.one(w:World)(st blk:List Int)(hs:st.length=8)(hb:blk.length=64)(z:List Int)(hz:z.length=8)(z2:List Int)(hz2:z2.length=64)(t1 t2 t3:TypeId) :
  Cl w ((((w.alloc (.cells (cW z).toArray t1)).alloc (.cells (cW st).toArray t2)).alloc (.cells (cB z2).toArray t3)).drew.setCells (w.heap.size+1+1) 0 (cB blk)) st blk (w.heap.size+1) (w.heap.size+1+1):=by
 have r1:=Qp (w.alloc (.cells (cW z).toArray t1)) (cW st) t2;have q1:=Qo (w.alloc (.cells (cW z).toArray t1)) (cW st).toArray t2 8 (by simp[Qn,hs])
 have q2:=Qo ((w.alloc (.cells (cW z).toArray t1)).alloc (.cells (cW st).toArray t2)) (cB z2).toArray t3 64 (by simp[Qu,hz2])
 have q0:=Qo w (cW z).toArray t1 8 (by simp[Qn,hz])
 simp only[World.size_alloc] at r1 q1 q2 q0;refine⟨hs,hb,Qq ((((Lb _ _).alloc (La _) _).alloc (by simp) _).alloc (by simp;omega) _).drew (by omega) _ _,by omega,by omega,by omega,?_,?_,?_,?_,?_⟩
 ·exact World.rangeAt_setCells_apart (by rw[World.rangeAt_drew];exact World.rangeAt_alloc r1 _) _ _ _ (Or.inl (by omega))
 ·exact World.there_setCells (by rw[World.there_drew];exact World.there_alloc q1 _) _ _ _
 ·exact World.rangeAt_setCells_same _ _ _ _ (by rw[World.there_drew,Qu,hb];exact q2)
 ·exact World.there_setCells (by rw[World.there_drew];exact q2) _ _ _
 ·exact World.there_setCells (by rw[World.there_drew];exact World.there_alloc (World.there_alloc q0 _) _) _ _ _
theorem Cl.two(w:World)(st blk:List Int)(hs:st.length=8)(hb:blk.length=64)(z:List Int)(hz:z.length=8)(z2:List Int)(hz2:z2.length=64)(t1 t2 t3:TypeId) :
  Cl w ((((w.alloc (.cells (cW z).toArray t1)).alloc (.cells (cB z2).toArray t3)).alloc (.cells (cW st).toArray t2)).drew.setCells (w.heap.size+1) 0 (cB blk)) st blk (w.heap.size+1+1) (w.heap.size+1):=by
 have r1:=Qp ((w.alloc (.cells (cW z).toArray t1)).alloc (.cells (cB z2).toArray t3)) (cW st) t2;have q1:=Qo ((w.alloc (.cells (cW z).toArray t1)).alloc (.cells (cB z2).toArray t3)) (cW st).toArray t2 8 (by simp[Qn,hs])
 have q2:=Qo (w.alloc (.cells (cW z).toArray t1)) (cB z2).toArray t3 64 (by simp[Qu,hz2])
 have q0:=Qo w (cW z).toArray t1 8 (by simp[Qn,hz])
 simp only[World.size_alloc] at r1 q1 q2 q0;refine⟨hs,hb,Qq ((((Lb _ _).alloc (La _) _).alloc (by simp) _).alloc (by simp;omega) _).drew (by omega) _ _,by omega,by omega,by omega,?_,?_,?_,?_,?_⟩
 ·exact World.rangeAt_setCells_apart (by rw[World.rangeAt_drew];exact r1) _ _ _ (Or.inl (by omega))
 ·exact World.there_setCells (by rw[World.there_drew];exact q1) _ _ _
 ·exact World.rangeAt_setCells_same _ _ _ _ (by rw[World.there_drew,Qu,hb];exact World.there_alloc q2 _)
 ·exact World.there_setCells (by rw[World.there_drew];exact World.there_alloc q2 _) _ _ _
 ·exact World.there_setCells (by rw[World.there_drew];exact World.there_alloc (World.there_alloc q0 _) _) _ _ _
theorem Cl.set{w wc:World}{st last:List Int}{bs bl:Nat}(h:Cl w wc st last bs bl)(i:Nat)(v:Int):Cl w (wc.setCell ⟨bl,i,none⟩ (.int .u8 v)) st (last.set i v) bs bl:=by
 have hbl:=h.hbl;refine⟨h.stl,by rw[IK];exact h.lastl,h.below.setCell (by show w.heap.size<=bl;omega) _,h.hbs,h.hbl,h.ne,Y1 h.st (Ne.symm h.ne) _,QM h.stt _ _,?_,QM h.lastt _ _,QM h.res _ _⟩
 have:=YG h.last i (.int .u8 v)
 rwa [Lo,Qfd] at this
theorem Cl.rest{w wc:World}{st last:List Int}{bs bl:Nat}(h:Cl w wc st last bs bl)(k:Nat)(hk:k<=64) :
  Cl w (wc.setCells bl k (List.replicate (64-k) (.int .u8 0))) st (last.take k++List.replicate (64-k) 0) bs bl:=by
 have hbl:=h.hbl;have hl:=h.lastl;have e:(List.replicate (64-k) (Value.int .u8 0))=cB (List.replicate (64-k) 0):=by simp[cB]
 refine⟨h.stl,by simp[hl];omega,Qq h.below (by omega) _ _,h.hbs,h.hbl,h.ne,World.rangeAt_setCells_apart h.st _ _ _ (Or.inl h.ne),World.there_setCells h.stt _ _ _,?_,World.there_setCells h.lastt _ _ _,World.there_setCells h.res _ _ _⟩
 have:=QfN h.last k (List.replicate (64-k) (Value.int .u8 0)) (by simp[Qu,hl];omega) (fun j hj=>by
  have:=h.lastt (k+j) (by simp at hj;omega)
  rwa [Lo] at this)
 rw[e] at this;rw[e]
 simpa [cB,List.map_take] using this
theorem Cl.later{w wc w':World}{st last:List Int}{bs bl:Nat}(h:Cl w wc st last bs bl)(hb:Below wc.heap.size wc w'):Cl w w' st last bs bl:=by
 have h1:=JC h.stt (by decide)
 have h2:=JC h.lastt (by decide)
 have h3:=JC h.res (by decide)
 exact⟨h.stl,h.lastl,h.below.trans (hb.mono (by omega)),h.hbs,h.hbl,h.ne,Qm hb h1 h.st,Q3 hb h1 h.stt,Qm hb h2 h.last,Q3 hb h2 h.lastt,Q3 hb h3 h.res⟩
theorem Cl.storeSt{w wc:World}{st last:List Int}{bs bl:Nat}(h:Cl w wc st last bs bl)(st':List Int)(hs:st'.length=8):Cl w (wc.setCells bs 0 (cW st')) st' last bs bl:=by
 have hbs:=h.hbs;exact⟨hs,h.lastl,Qq h.below (by omega) _ _,h.hbs,h.hbl,h.ne,World.rangeAt_setCells_same _ _ _ _ (by rw[Qn,hs];exact h.stt),World.there_setCells h.stt _ _ _,World.rangeAt_setCells_apart h.last _ _ _ (Or.inl (Ne.symm h.ne)),World.there_setCells h.lastt _ _ _,World.there_setCells h.res _ _ _⟩
theorem Cl.storeLast{w wc:World}{st last:List Int}{bs bl:Nat}(h:Cl w wc st last bs bl)(l':List Int)(hs:l'.length=64):Cl w (wc.setCells bl 0 (cB l')) st l' bs bl:=by
 have hbl:=h.hbl;exact⟨h.stl,hs,Qq h.below (by omega) _ _,h.hbs,h.hbl,h.ne,World.rangeAt_setCells_apart h.st _ _ _ (Or.inl h.ne),World.there_setCells h.stt _ _ _,World.rangeAt_setCells_same _ _ _ _ (by rw[Qu,hs];exact h.lastt),World.there_setCells h.lastt _ _ _,World.there_setCells h.res _ _ _⟩
end Go.Proofs.YtoblgjledefdbaaGreatDoor
