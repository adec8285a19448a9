/- Own work. -/
import Derived.Test.YtoblgjledefdbaaGreatDoorQtA
import Derived.WalkSpells
import Derived.Deep.RegionHeld3
import Derived.Deep.DrawnRows
import Derived.Deep.Light
import Derived.Deep.CutRange
import Derived.Lib.LazyBuf
import Derived.Lib.BufferOwn
set_option maxRecDepth 100000
set_option maxHeartbeats 2000000
namespace Go.Proofs.YtoblgjledefdbaaGreatDoor
open Go.RowKit
attribute [local go_sem ↓] Go.wp_at_zero Go.wp_at_succ
open Go.Proofs.Tryz
def UE(x n:Int):Int:=bits .or .u32 (x/2^n.toNat) (IntKind.u32.wrap (x*2^(32-n).toNat))
def cB(l:List Int):List Value:=l.map (Value.int .u8)
def cW(l:List Int):List Value:=l.map (Value.int .u32)
def pad(l:List Int):List Int:=l++List.replicate (64-l.length) 0
def Qf3(a b c d:Int):Int :=
 bits .or .u32 (bits .or .u32 (bits .or .u32 (IntKind.u32.wrap (IntKind.u32.wrap a*16777216)) (IntKind.u32.wrap (IntKind.u32.wrap b*65536))) (IntKind.u32.wrap (IntKind.u32.wrap c*256))) (IntKind.u32.wrap d)
def sch0(blk:List Int):Nat->List Int
 | 0=>[]
 | k+1=>sch0 blk k++[Qf3 (blk.getD (4*k) 0) (blk.getD (4*k+1) 0) (blk.getD (4*k+2) 0) (blk.getD (4*k+3) 0)]
def QhE(a x c y:Int):Int :=
 IntKind.u32.wrap (IntKind.u32.wrap (IntKind.u32.wrap (a+bits .xor .u32 (bits .xor .u32 (UE x 7) (UE x 18)) (x/8))+c)+bits .xor .u32 (bits .xor .u32 (UE y 17) (UE y 19)) (y/1024))
def Q5(blk:List Int):Nat->List Int
 | 0=>sch0 blk 16
 | k+1=>Q5 blk k++[QhE ((Q5 blk k).getD k 0) ((Q5 blk k).getD (k+1) 0) ((Q5 blk k).getD (k+9) 0) ((Q5 blk k).getD (k+14) 0)]
variable{l:List Int}{w w':World}{B b i j n o:Nat}{a:Addr}{u v:Value}{cs:List Value}
theorem Qaz(blk:List Int)(k:Nat):(sch0 blk k).length=k:=by
 induction k with
 | zero=>rfl
 | succ k ih=>simp[sch0,ih]
theorem QaA(blk:List Int)(k:Nat):(Q5 blk k).length=16+k:=by
 induction k with
 | zero=>exact Qaz _ _
 | succ k ih=>simp only[Q5,List.length_append,ih,List.length_cons,List.length_nil];omega
theorem Uu(h:l.length<=64):(pad l).length=64:=by simp[pad];omega
theorem Qfr(h:l.length=64):pad l=l:=by simp[pad,h]
theorem Yb(l:List Int)(i:Nat):(pad l).getD i 0=l.getD i 0:=by
 unfold pad;simp only[List.getD_eq_getElem?_getD]
 by_cases h:i<l.length
 ·rw[Ly h]
 ·rw[LI (by omega),Nn (l:=l) (by omega),IH]
  split <;> rfl
theorem QbC(h:l.length<64)(v:Int):(pad l).set l.length v=pad (l++[v]):=by
 unfold pad;rw[Nb _ _ (La _)];obtain⟨n,hn⟩:∃n,64-l.length=n+1:=⟨64-l.length-1,by omega⟩
 have xA:64-(l++[v]).length=n:=by simp;omega
 rw[hn,xA,IW];simp
theorem Qhi(h:w.rangeAt b o (cB l))(hi:i<l.length):w.cell? ⟨b,o+i,none⟩=some (.int .u8 (l.getD i 0)) :=
 h i _ (by simp[cB,List.getElem?_eq_getElem hi,List.getD_eq_getElem?_getD])
theorem QmG(h:w.rangeAt b o (cW l))(hi:i<l.length):w.cell? ⟨b,o+i,none⟩=some (.int .u32 (l.getD i 0)) :=
 h i _ (by simp[cW,List.getElem?_eq_getElem hi,List.getD_eq_getElem?_getD])
theorem Yk(h:w.rangeAt b 0 (cB l))(hi:i<l.length):w.cell? ⟨b,i,none⟩=some (.int .u8 (l.getD i 0)):=by
 have:=Qhi h hi;rwa [Ll] at this
theorem Qd(h:w.rangeAt b 0 (cW l))(hi:i<l.length):w.cell? ⟨b,i,none⟩=some (.int .u32 (l.getD i 0)):=by
 have:=QmG h hi;rwa [Ll] at this
theorem Qm(l:List Int):(cW l).length=l.length:=by simp[cW]
theorem QA(l:List Int):(cB l).length=l.length:=by simp[cB]
theorem Uz(l:List Int):∀v∈cW l,v.oneCell'=true:=by
 intro v hv;obtain⟨x,_,rfl⟩:=List.mem_map.1 hv;rfl
theorem QaM(l:List Int):∀v∈cB l,v.oneCell'=true:=by
 intro v hv;obtain⟨x,_,rfl⟩:=List.mem_map.1 hv;rfl
theorem Qgc(l:List Int)(i:Nat)(v:Int):(cW l).set i (.int .u32 v)=cW (l.set i v):=by simp[cW,List.map_set]
theorem Qgb(l:List Int)(i:Nat)(v:Int):(cB l).set i (.int .u8 v)=cB (l.set i v):=by simp[cB,List.map_set]
theorem QiG{b:Addr}(h:w.cell? b=some u)(hne:a.block≠b.block):(w.setCell a v).drew.cell? b=some u:=by
 rw[Nu,Lt _ _ _ _ (fun e=>hne (by rw[e]))];exact h
theorem YH(h:w.rangeAt b o cs)(i:Nat)(v:Value):(w.setCell ⟨b,o+i,none⟩ v).rangeAt b o (cs.set i v):=fun j u hu=>by
 by_cases e:i=j
 ·subst e;rw[List.getElem?_set_self'] at hu
  cases hc:cs[i]? with
  | none=>simp[hc] at hu
  | some c=>
   simp[hc] at hu;subst hu;exact Nf _ _ _ (h i c hc)
 ·rw[Iq e] at hu;rw[Lt _ _ _ _ (fun e'=>e (by have:=Lv Addr.off e';simp at this;omega))]
  exact h j u hu
theorem Uh(h:w.rangeAt b o cs)(ha:a.block≠b)(v:Value):(w.setCell a v).rangeAt b o cs:=fun j u hu=>by
 rw[Lt _ _ _ _ (fun e=>ha (by rw[e]))];exact h j u hu
theorem QJ(h:w.there b o n)(a:Addr)(v:Value):(w.setCell a v).there b o n:=fun j hj=>by
 obtain⟨h1,h2⟩:=h j hj;refine⟨?_,by rw[NI];exact h2⟩
 obtain⟨u,hu⟩:=Option.isSome_iff_exists.1 h1
 by_cases e:a=⟨b,o+j,none⟩
 ·subst e;rw[Nf _ _ _ hu];rfl
 ·rw[Lt _ _ _ _ e,hu];rfl
theorem Qn(hb:Below B w w')(hlt:b<B)(h:w.rangeAt b o cs):w'.rangeAt b o cs:=fun j u hu=>by
 rw[hb.cell (p:=⟨b,o+j,none⟩) hlt];exact h j u hu
theorem QX(hb:Below B w w')(hlt:b<B)(h:w.there b o n):w'.there b o n:=fun j hj=>by
 rw[hb.cell (p:=⟨b,o+j,none⟩) hlt,hb.frozen (p:=⟨b,o+j,none⟩) hlt];exact h j hj
theorem Qv(w:World)(cs:List Value)(t:TypeId):(w.alloc (.cells cs.toArray t)).rangeAt w.heap.size 0 cs:=fun j u hu=>by
 rw[Nc,Ll];simpa using hu
theorem Ql(w:World)(cs:Array Value)(t:TypeId)(n:Nat)(hn:n<=cs.size):(w.alloc (.cells cs t)).there w.heap.size 0 n:=fun j hj=>by
 refine⟨?_,Wh _ _ _ _⟩
 rw[Nc,Ll,L6 (by omega)];rfl
theorem JZ(h:w.there b o n)(hn:0<n):b<w.heap.size:=by
 obtain⟨u,hu⟩:=Option.isSome_iff_exists.1 (h 0 hn).1;exact Lo _ _ hu
theorem QF(h:w.rangeAt b o cs)(hn:cs≠[]):b<w.heap.size:=by
 cases cs with
 | nil=>exact absurd rfl hn
 | cons c r=>exact Lo _ _ (h 0 c rfl)
theorem Q1(x:Int)(h0:0<=x)(h1:x<9223372036854775808):IntKind.i64.wrap x=x:=by
 simp[IntKind.wrap,IntKind.bits,IntKind.signed];omega
theorem OW(x n:Int)(w:World)(hn:0<n)(hn':n<32) :
  Re 412 #[.int .u32 x,.int .u64 n] w (.int .u32 (UE x n)):=by
 go_enter func412,ntmps412;go_wp2
 go_ret
 refine⟨?_,rfl⟩
 simp only[UE,IntKind.wrap_u32']
 rfl
theorem Qf2(n:Int)(w:World)(b:Nat)(h0:0<=n)(hc:w.cell? ⟨b,72,none⟩=some (.int .u64 n)) :
  Re 403 #[Pq b] w (.int .i64 (n%64)):=by
 go_enter func403,ntmps403;go_wp2
 go_ret
 exact⟨rfl,rfl⟩
theorem QkP(h:w.cell? ⟨b,i,none⟩=some u)(hne:i≠j):(w.setCell ⟨b,j,none⟩ v).drew.cell? ⟨b,i,none⟩=some u:=by
 rw[Nu,Lt _ _ _ _ (fun e=>hne (by have:=Lv Addr.off e;simpa using this.symm))];exact h
theorem QeA:(prog.info? 403).map (·.size)=some 64:=by kernel_rfl
theorem QG{P:Program}{fn:Func}{p:Tmp}{ty:TypeId}(h:fn.results=#[.cell p ty])(tmps:Array Value)(w:World)(b o:Nat)(cs:List Value)(d:TypeDesc)
  (hp:tmps.getD p undef= .pointer (some ⟨b,o,none⟩)) (hc:w.rangeAt b o cs)
  (hu:P.underlying ty=some d) (hd:d.isRow=true) (hi:(P.info? ty).map (·.size)=some cs.length) :
  (results fn tmps).run P w= .ok (.agg cs.toArray) w:=by
 have xA:tmps[p]?.getD undef= .pointer (some ⟨b,o,none⟩):=by simpa using hp
 simp[results,h,xA,asAddr,run_loadVar_mid w b o ty cs d hc hu hd hi]
theorem Qq{a:World}(h:Below B a w)(hb:B<=b)(o:Nat)(cs:List Value):Below B a (w.setCells b o cs):=by
 induction cs generalizing o w with
 | nil=>exact h
 | cons c r ih=>exact ih (h.setCell (p:=⟨b,o,none⟩) hb c) (o+1)
structure Sch(w wr:World)(blk ws:List Int):Prop where
 below:Bl w wr
 blk:wr.rangeAt w.heap.size 0 (cB blk)
 res:wr.there (w.heap.size+1) 0 64
 ws:wr.rangeAt (w.heap.size+1+1) 0 (cW (pad ws))
 wst:wr.there (w.heap.size+1+1) 0 64
theorem Sch.step{wr:World}{blk ws:List Int}(h:Sch w wr blk ws)(hl:ws.length<64)(v:Int) :
  Sch w (wr.setCell ⟨w.heap.size+1+1,ws.length,none⟩ (.int .u32 v)).drew blk (ws++[v]):=by
 refine⟨(h.below.setCell (by show w.heap.size<=w.heap.size+1+1;omega) _).drew,?_,?_,?_,?_⟩
 ·rw[World.rangeAt_drew];exact Uh h.blk (by show w.heap.size+1+1≠w.heap.size;omega) _
 ·rw[World.there_drew];exact QJ h.res _ _
 ·rw[World.rangeAt_drew];have:=YH h.ws ws.length (.int .u32 v);rw[Ll,Qgc,QbC hl] at this;exact this
 ·rw[World.there_drew];exact QJ h.wst _ _
theorem Sch.drew{wr:World}{blk ws:List Int}(h:Sch w wr blk ws):Sch w wr.drew blk ws :=
 ⟨h.below.drew,by rw[World.rangeAt_drew];exact h.blk,by rw[World.there_drew];exact h.res,by rw[World.rangeAt_drew];exact h.ws,by rw[World.there_drew];exact h.wst⟩
theorem Sch.start(w:World)(blk:List Int)(z1 z2:Array Value)(t1 t2 t3:TypeId)(h1:z1.size=64)(h2:z2=(cW (pad [])).toArray) :
  Sch w (((w.alloc (.cells (cB blk).toArray t1)).alloc (.cells z1 t2)).alloc (.cells z2 t3)) blk []:=by
 subst h2;have r1:=Qv w (cB blk) t1;have xA:=Ql (w.alloc (.cells (cB blk).toArray t1)) z1 t2 64 (by omega)
 have r3:=Qv ((w.alloc (.cells (cB blk).toArray t1)).alloc (.cells z1 t2)) (cW (pad [])) t3;have xB:=Ql ((w.alloc (.cells (cB blk).toArray t1)).alloc (.cells z1 t2)) (cW (pad [])).toArray t3 64 (by simp[Qm,pad])
 simp only[World.size_alloc] at r1 xA r3 xB;exact⟨(((Lb _ _).alloc (La _) _).alloc (by simp) _).alloc (by simp;omega) _,World.rangeAt_alloc (World.rangeAt_alloc r1 _) _,World.there_alloc xA _,r3,xB⟩
theorem Qez(blk:List Int)(hl:blk.length=64)(w:World) :
  Zr 411 #[.agg (cB blk).toArray] w (.agg (cW (Q5 blk 48)).toArray):=by
 go_enter func411,ntmps411;go_wp2
 go_loopg [8] 16 (fun g i wr=> ∃k:Nat,k<=16∧g=16-k∧i= .int .i64 k∧Sch w wr blk (sch0 blk k))
 case atStart=>go_light;exact⟨0,Ln _,rfl,rfl,Sch.start w blk _ _ _ _ _ rfl rfl⟩
 case round=>
  obtain⟨k,hk,rfl,rfl,hs⟩:=hrel
  by_cases hlt:k<16
  ·have xP:(0:Int)<=(k:Int):=Lh _;have xQ:(k:Int)<16:=by omega
   obtain⟨m,hm⟩:∃m:Nat,4*k=m:=⟨_,rfl⟩;obtain⟨m1,xI⟩:∃m1:Nat,m+1=m1:=⟨_,rfl⟩;obtain⟨m2,xJ⟩:∃m2:Nat,m+2=m2:=⟨_,rfl⟩;obtain⟨m3,xK⟩:∃m3:Nat,m+3=m3:=⟨_,rfl⟩;have e0:IntKind.i64.wrap (4*(k:Int))=(m:Int):=by rw[Q1 _ (by omega) (by omega)];omega
   have e1:IntKind.i64.wrap ((m:Int)+1)=(m1:Int):=by rw[Q1 _ (by omega) (by omega)];omega
   have e2:IntKind.i64.wrap ((m:Int)+2)=(m2:Int):=by rw[Q1 _ (by omega) (by omega)];omega
   have e3:IntKind.i64.wrap ((m:Int)+3)=(m3:Int):=by rw[Q1 _ (by omega) (by omega)];omega
   have b0:(0:Int)<=(m:Int):=Lh _;have b1:(0:Int)<=(m1:Int):=Lh _;have b2:(0:Int)<=(m2:Int):=Lh _;have b3:(0:Int)<=(m3:Int):=Lh _;have d0:(m:Int)<64:=by omega
   have d1:(m1:Int)<64:=by omega
   have d2:(m2:Int)<64:=by omega
   have d3:(m3:Int)<64:=by omega
   have dk:(k:Int)<64:=by omega
   have c0:wr.cell? ⟨w.heap.size,m,none⟩=some (.int .u8 (blk.getD m 0)):=Yk hs.blk (by omega)
   have c1:wr.cell? ⟨w.heap.size,m1,none⟩=some (.int .u8 (blk.getD m1 0)):=Yk hs.blk (by omega)
   have c2:wr.cell? ⟨w.heap.size,m2,none⟩=some (.int .u8 (blk.getD m2 0)):=Yk hs.blk (by omega)
   have c3:wr.cell? ⟨w.heap.size,m3,none⟩=some (.int .u8 (blk.getD m3 0)):=Yk hs.blk (by omega)
   have st:wr.cell? ⟨w.heap.size+1+1,k,none⟩=some (.int .u32 ((pad (sch0 blk k)).getD k 0)):=Qd hs.ws (by rw[Uu (by rw[Qaz];omega)];omega)
   have sf:wr.frozen? ⟨w.heap.size+1+1,k,none⟩=false:=by have:=(hs.wst k (by omega)).2;rwa [Ll] at this
   have HF:Hid (∀v,Sch w (wr.setCell ⟨w.heap.size+1+1,k,none⟩ (.int .u32 v)).drew blk (sch0 blk k++[v])):=fun v=>by
    have:=hs.step (by rw[Qaz];omega) v
    rwa [Qaz] at this
   have HV:Hid (sch0 blk (k+1)=sch0 blk k++[Qf3 (blk.getD m 0) (blk.getD m1 0) (blk.getD m2 0) (blk.getD m3 0)]):=by
    show _=_
    subst hm xI xJ xK;rfl
   clear hs hm xI xJ xK;generalize (pad (sch0 blk k)).getD k 0=z at *;generalize blk.getD m 0=x0 at *;generalize blk.getD m1 0=x1 at *;generalize blk.getD m2 0=x2 at *;generalize blk.getD m3 0=x3 at *;go_wp2
   go_region_held3 (fun w'=>w'.cell? ⟨w.heap.size,m,none⟩=some (.int .u8 x0)∧w'.cell? ⟨w.heap.size,m1,none⟩=some (.int .u8 x1)∧w'.cell? ⟨w.heap.size,m2,none⟩=some (.int .u8 x2)∧w'.cell? ⟨w.heap.size,m3,none⟩=some (.int .u8 x3)) (first|assumption|(refine⟨?_,?_,?_,?_⟩ <;> first|assumption|(refine QiG (by assumption) ?_;show w.heap.size+1+1≠w.heap.size;omega))) (fail)
   go_wp2
   go_roundg (16-(k+1))
   case rel=>
    go_light;refine⟨k+1,by omega,rfl,by go_num,?_⟩
    rw[HV.out];exact HF.out _
   case measure=>go_light;omega
  ·obtain rfl:k=16:=by omega
   clear hk hlt;go_wp2
   go_loopg [5] 48 (fun g i wr=> ∃k:Nat,k<=48∧g=48-k∧i= .int .i64 ((16+k:Nat):Int)∧Sch w wr blk (Q5 blk k))
   case atStart=>go_light;exact⟨0,Ln _,rfl,rfl,hs⟩
   case round=>
    clear hs;obtain⟨k,hk,rfl,rfl,hs⟩:=hrel
    by_cases hlt:k<48
    ·obtain⟨t,ht⟩:∃t:Nat,16+k=t:=⟨_,rfl⟩;obtain⟨k1,xG⟩:∃k1:Nat,k+1=k1:=⟨_,rfl⟩;obtain⟨k9,xH⟩:∃k9:Nat,k+9=k9:=⟨_,rfl⟩;obtain⟨xB,xC⟩:∃xB:Nat,k+14=xB:=⟨_,rfl⟩;rw[ht];have e0:IntKind.i64.wrap ((t:Int)-16)=(k:Int):=by rw[Q1 _ (by omega) (by omega)];omega
     have e1:IntKind.i64.wrap ((t:Int)-15)=(k1:Int):=by rw[Q1 _ (by omega) (by omega)];omega
     have e2:IntKind.i64.wrap ((t:Int)-7)=(k9:Int):=by rw[Q1 _ (by omega) (by omega)];omega
     have e3:IntKind.i64.wrap ((t:Int)-2)=(xB:Int):=by rw[Q1 _ (by omega) (by omega)];omega
     have b0:(0:Int)<=(k:Int):=Lh _;have b1:(0:Int)<=(k1:Int):=Lh _;have b2:(0:Int)<=(k9:Int):=Lh _;have b3:(0:Int)<=(xB:Int):=Lh _;have bt:(0:Int)<=(t:Int):=Lh _;have d0:(k:Int)<64:=by omega
     have d1:(k1:Int)<64:=by omega
     have d2:(k9:Int)<64:=by omega
     have d3:(xB:Int)<64:=by omega
     have dt:(t:Int)<64:=by omega
     have xA:=QaA blk k;have xN:(pad (Q5 blk k)).length=64:=Uu (by omega)
     have c0:wr.cell? ⟨w.heap.size+1+1,k,none⟩=some (.int .u32 ((Q5 blk k).getD k 0)):=by rw[<-Yb];exact Qd hs.ws (by omega)
     have c1:wr.cell? ⟨w.heap.size+1+1,k1,none⟩=some (.int .u32 ((Q5 blk k).getD k1 0)):=by rw[<-Yb];exact Qd hs.ws (by omega)
     have c2:wr.cell? ⟨w.heap.size+1+1,k9,none⟩=some (.int .u32 ((Q5 blk k).getD k9 0)):=by rw[<-Yb];exact Qd hs.ws (by omega)
     have c3:wr.cell? ⟨w.heap.size+1+1,xB,none⟩=some (.int .u32 ((Q5 blk k).getD xB 0)):=by rw[<-Yb];exact Qd hs.ws (by omega)
     have st:wr.cell? ⟨w.heap.size+1+1,t,none⟩=some (.int .u32 ((Q5 blk k).getD t 0)):=by rw[<-Yb];exact Qd hs.ws (by omega)
     have sf:wr.frozen? ⟨w.heap.size+1+1,t,none⟩=false:=by have:=(hs.wst t (by omega)).2;rwa [Ll] at this
     have HF:Hid (∀v,Sch w (wr.drew.setCell ⟨w.heap.size+1+1,t,none⟩ (.int .u32 v)).drew blk (Q5 blk k++[v])):=fun v=>by
      have:=hs.drew.step (by omega) v
      rwa [xA,ht] at this
     have HV:Hid (Q5 blk (k+1)=Q5 blk k++[QhE ((Q5 blk k).getD k 0) ((Q5 blk k).getD k1 0) ((Q5 blk k).getD k9 0) ((Q5 blk k).getD xB 0)]):=by
      show _=_
      subst xG xH xC;rfl
     have HT:Hid (16+k=t):=ht;have N0:k≠t:=by omega
     have N1:k1≠t:=by omega
     have N2:k9≠t:=by omega
     have N3:xB≠t:=by omega
     clear hs ht xG xH xC xA xN hl;generalize (Q5 blk k).getD k 0=x0 at *;generalize (Q5 blk k).getD k1 0=x1 at *;generalize (Q5 blk k).getD k9 0=x2 at *;generalize (Q5 blk k).getD xB 0=x3 at *;generalize (Q5 blk k).getD t 0=z at *;go_wp2
     go_region_held3 (fun w'=>w'.cell? ⟨w.heap.size+1+1,k1,none⟩=some (.int .u32 x1)∧w'.cell? ⟨w.heap.size+1+1,xB,none⟩=some (.int .u32 x3)) (first|assumption|(refine⟨?_,?_⟩ <;> first|assumption|(rw[Nu];assumption))) (fail)
     go_wp2
     go_region_held3 (fun w'=>w'.cell? ⟨w.heap.size+1+1,k,none⟩=some (.int .u32 x0)∧w'.cell? ⟨w.heap.size+1+1,k9,none⟩=some (.int .u32 x2)) (first|assumption|(refine⟨?_,?_⟩ <;> first|assumption|(rw[Nu];assumption)|(refine QkP ?_ ?_ <;> assumption))) (first|(go_at_call 412;refine(OW _ _ _ (by decide) (by decide)).mono ?_;rintro e w' ⟨rfl,rfl⟩))
     go_wp2
     go_roundg (48-(k+1))
     case rel=>
      go_light;refine⟨k+1,by omega,rfl,?_,?_⟩
      ·have:=HT.out;go_num
      rw[HV.out];exact HF.out _
     case measure=>go_light;omega
    ·obtain rfl:k=48:=by omega
     have xA:=QaA blk 48;have xL:=hs.ws;rw[Qfr xA] at xL;have xF:=hs.res;have xE:=hs.below;have hi:(prog.info? 403).map (·.size)=some (cW (Q5 blk 48)).length:=by rw[Qm,xA];exact QeA
     have xM:(prog.info? 403).map (·.size)=some (cW (Q5 blk 48)).toArray.size:=by simpa using hi
     have xD:wr.there (w.heap.size+1) 0 (cW (Q5 blk 48)).toArray.size:=by
      have xO:(cW (Q5 blk 48)).toArray.size=64:=by simp[Qm,xA]
      rw[xO];exact xF
     clear hs hk hlt hl xA;generalize hE:Q5 blk 48=ws at *;have HE:Hid (Q5 blk 48=ws):=hE;clear hE
     go_wp2_with (first|(refine wpList_load_mid rfl 403 _ rfl (w.heap.size+1+1) 0 rfl (cW ws) _ xL underlying403 rfl hi ?_)|(refine wpList_store_mid rfl 403 _ _ rfl (w.heap.size+1) 0 (cW ws).toArray rfl rfl xD xM (all_oneCell_toArray (Uz ws)) ?_))
     refine LD (v := .agg (cW ws).toArray) ?_ rfl ⟨by rw[HE.out],?_⟩
     ·refine QG results411 _ _ (w.heap.size+1) 0 (cW ws) (.array 64 110) ?_ ?_ underlying403 rfl hi
      ·rfl
      ·go_light
       simpa using World.rangeAt_setCells_same _ _ _ _ (by simpa using xD)
     ·go_light;exact Qq xE (by omega) _ _
structure S8 where
 a:Int
 b:Int
 c:Int
 d:Int
 e:Int
 f:Int
 g:Int
 h:Int
def oneI(e f g h r w:Int):Int :=
 IntKind.u32.wrap (IntKind.u32.wrap (IntKind.u32.wrap (IntKind.u32.wrap (h+bits .xor .u32 (bits .xor .u32 (UE e 6) (UE e 11)) (UE e 25))+bits .xor .u32 (bits .and .u32 e f) (bits .and .u32 (bits .xor .u32 IntKind.u32.max e) g))+r)+w)
def twoI(a b c:Int):Int :=
 IntKind.u32.wrap (bits .xor .u32 (bits .xor .u32 (UE a 2) (UE a 13)) (UE a 22)+bits .xor .u32 (bits .xor .u32 (bits .and .u32 a b) (bits .and .u32 a c)) (bits .and .u32 b c))
def S8.rnd(v:S8)(r w:Int):S8 :=
 { a:=IntKind.u32.wrap (oneI v.e v.f v.g v.h r w+twoI v.a v.b v.c),b:=v.a,c:=v.b,d:=v.c,e:=IntKind.u32.wrap (v.d+oneI v.e v.f v.g v.h r w),f:=v.e,g:=v.f,h:=v.g }
def rnds(v:S8)(rs ws:List Int):Nat->S8
 | 0=>v
 | k+1=>(rnds v rs ws k).rnd (rs.getD k 0) (ws.getD k 0)
def US(st:List Int):S8:=⟨st.getD 0 0,st.getD 1 0,st.getD 2 0,st.getD 3 0,st.getD 4 0,st.getD 5 0,st.getD 6 0,st.getD 7 0⟩
def sumI(s v:S8):List Int :=
 [IntKind.u32.wrap (s.a+v.a),IntKind.u32.wrap (s.b+v.b),IntKind.u32.wrap (s.c+v.c),IntKind.u32.wrap (s.d+v.d),IntKind.u32.wrap (s.e+v.e),IntKind.u32.wrap (s.f+v.f),IntKind.u32.wrap (s.g+v.g),IntKind.u32.wrap (s.h+v.h)]
def YS(rs st blk:List Int):List Int:=sumI (US st) (rnds (US st) rs (Q5 blk 48) 64)
theorem QiB(rs st blk:List Int):(YS rs st blk).length=8:=rfl
theorem Qcc{st:List Int}(h:st.length=8):∃s0 s1 s2 s3 s4 s5 s6 s7,st=[s0,s1,s2,s3,s4,s5,s6,s7]:=by
 match st,h with
 | [s0,s1,s2,s3,s4,s5,s6,s7],_=>exact⟨s0,s1,s2,s3,s4,s5,s6,s7,rfl⟩
theorem Qa7:(prog.info? 184).map (·.size)=some 64:=by kernel_rfl
theorem UF:(prog.info? 346).map (·.size)=some 8:=by kernel_rfl
structure Fo(w wr:World)(st ws rs:List Int)(N:Nat):Prop where
 below:Bl w wr
 st:wr.rangeAt w.heap.size 0 (cW st)
 res:wr.there (w.heap.size+1+1) 0 8
 ws:wr.rangeAt N 0 (cW ws)
 rs:wr.rangeAt 3 0 (cW rs)
theorem Fo.drew{wr:World}{st ws rs:List Int}{N:Nat}(h:Fo w wr st ws rs N):Fo w wr.drew st ws rs N :=
 ⟨h.below.drew,by rw[World.rangeAt_drew];exact h.st,by rw[World.there_drew];exact h.res,by rw[World.rangeAt_drew];exact h.ws,by rw[World.rangeAt_drew];exact h.rs⟩
theorem Fo.start{st blk ws rs:List Int}{t1 t2 t3 t4:TypeId}{z:List Int}(hz:z.length=8){z2:Array Value}(hz2:z2.size=64)(hwl:ws.length=64)(hrl:rs.length=64)
  (hr:w.rangeAt 3 0 (cW rs))
  (hb:Below (((w.alloc (.cells (cW st).toArray t1)).alloc (.cells (cB blk).toArray t2)).alloc (.cells (cW z).toArray t3)).heap.size (((w.alloc (.cells (cW st).toArray t1)).alloc (.cells (cB blk).toArray t2)).alloc (.cells (cW z).toArray t3)) w') :
  Fo w ((w'.alloc (.cells z2 t4)).setCells w'.heap.size 0 (cW ws)) st ws rs w'.heap.size:=by
 have xB:3<w.heap.size:=QF hr (by intro h;have:=Lv List.length h;simp[Qm,hrl] at this)
 have hN:w.heap.size+3<=w'.heap.size:=by have:=hb.size;simp at this;omega
 have xA:Bl w w':=((((Lb _ _).alloc (La _) _).alloc (by simp) _).alloc (by simp;omega) _).trans (hb.mono (by simp;omega))
 have h1:w'.rangeAt w.heap.size 0 (cW st):=Qn hb (by simp;omega) (World.rangeAt_alloc (World.rangeAt_alloc (Qv _ _ _) _) _)
 have h2:w'.there (w.heap.size+1+1) 0 8:=by
  have:=Ql ((w.alloc (.cells (cW st).toArray t1)).alloc (.cells (cB blk).toArray t2)) (cW z).toArray t3 8 (by simp[Qm,hz])
  simp only[World.size_alloc] at this;exact QX hb (by simp) this
 have h3:w'.rangeAt 3 0 (cW rs):=Qn xA xB hr;refine⟨Qq (xA.alloc (by omega) _) (by omega) _ _,?_,?_,?_,?_⟩
 ·exact World.rangeAt_setCells_apart (World.rangeAt_alloc h1 _) _ _ _ (Or.inl (by omega))
 ·exact World.there_setCells (World.there_alloc h2 _) _ _ _
 ·exact World.rangeAt_setCells_same _ _ _ _ (Ql _ _ _ _ (by rw[Qm,hwl,hz2];exact La _))
 ·exact World.rangeAt_setCells_apart (World.rangeAt_alloc h3 _) _ _ _ (Or.inl (by omega))
theorem OM(st:List Int)(hst:st.length=8)(blk:List Int)(hl:blk.length=64)(w:World)(rs:List Int)(hrl:rs.length=64)(hr:w.rangeAt 3 0 (cW rs)) :
  Zr 404 #[.agg (cW st).toArray,.agg (cB blk).toArray] w (.agg (cW (YS rs st blk)).toArray):=by
 obtain⟨s0,s1,s2,s3,s4,s5,s6,s7,rfl⟩:=Qcc hst;clear hst;obtain⟨ws,xD⟩:∃ws,ws=Q5 blk 48:=⟨_,rfl⟩;have xH:ws.length=64:=by rw[xD,QaA]
 have xB:=fun w=>Qez blk hl w
 rw[<-xD] at xB;have HE:Hid (ws=Q5 blk 48):=xD;clear xD;have xF:(prog.info? 184).map (·.size)=some (cB blk).length:=by rw[QA,hl];exact Qa7
 have xG:(prog.info? 403).map (·.size)=some (cW ws).toArray.size:=by rw[NO,Qm,xH];exact QeA
 have xJ:(cW ws).toArray.size=64:=by simp[Qm,xH]
 have r1:=fun o=>World.rangeAt_alloc (Qv (w.alloc o) (cB blk) 184)
 simp only[World.size_alloc] at r1
 go_enter func404,ntmps404
 go_wp2_with (first|(refine wpList_load_mid rfl 184 _ rfl (w.heap.size+1) 0 rfl (cB blk) _ (r1 _ _) underlying184 rfl xF ?_)|(go_at_call 411;refine(xB _).mono ?_;rintro e w' ⟨rfl,xI⟩)|(refine wpList_store_mid rfl 403 _ _ rfl _ 0 (cW ws).toArray rfl rfl ?_ xG (all_oneCell_toArray (Uz ws)) ?_;exact Ql _ _ _ _ (by rw[xJ];exact La 64)))
 go_simp
 have xA:=Fo.start (z:=[0,0,0,0,0,0,0,0]) (z2:=(cW (List.replicate 64 0)).toArray) (t4:=403) rfl rfl xH hrl hr xI;clear xI r1 xB;replace xA:Fo w ((w'.alloc (.cells Za 403)).setCells w'.heap.size 0 (cW ws)) [s0,s1,s2,s3,s4,s5,s6,s7] ws rs w'.heap.size:=xA;generalize ((w'.alloc (.cells Za 403)).setCells w'.heap.size 0 (cW ws))=W2 at *;generalize w'.heap.size=N at *;clear w';have c0:W2.cell? ⟨w.heap.size,0,none⟩=some (.int .u32 s0):=Qd xA.st (i:=0) (by simp)
 have c1:W2.cell? ⟨w.heap.size,1,none⟩=some (.int .u32 s1):=Qd xA.st (i:=1) (by simp)
 have c2:W2.cell? ⟨w.heap.size,2,none⟩=some (.int .u32 s2):=Qd xA.st (i:=2) (by simp)
 have c3:W2.cell? ⟨w.heap.size,3,none⟩=some (.int .u32 s3):=Qd xA.st (i:=3) (by simp)
 have c4:W2.cell? ⟨w.heap.size,4,none⟩=some (.int .u32 s4):=Qd xA.st (i:=4) (by simp)
 have c5:W2.cell? ⟨w.heap.size,5,none⟩=some (.int .u32 s5):=Qd xA.st (i:=5) (by simp)
 have c6:W2.cell? ⟨w.heap.size,6,none⟩=some (.int .u32 s6):=Qd xA.st (i:=6) (by simp)
 have c7:W2.cell? ⟨w.heap.size,7,none⟩=some (.int .u32 s7):=Qd xA.st (i:=7) (by simp)
 go_region_held3 (fun w'=>w'.cell? ⟨w.heap.size,0,none⟩=some (.int .u32 s0)∧w'.cell? ⟨w.heap.size,1,none⟩=some (.int .u32 s1)∧w'.cell? ⟨w.heap.size,2,none⟩=some (.int .u32 s2)∧w'.cell? ⟨w.heap.size,3,none⟩=some (.int .u32 s3)) (first|assumption|(refine⟨?_,?_,?_,?_⟩ <;> first|assumption|(rw[Nu];assumption))) (fail)
 go_wp2
 go_region_held3 (fun w'=>w'.cell? ⟨w.heap.size,4,none⟩=some (.int .u32 s4)∧w'.cell? ⟨w.heap.size,5,none⟩=some (.int .u32 s5)∧w'.cell? ⟨w.heap.size,6,none⟩=some (.int .u32 s6)∧w'.cell? ⟨w.heap.size,7,none⟩=some (.int .u32 s7)) (first|assumption|(refine⟨?_,?_,?_,?_⟩ <;> first|assumption|(rw[Nu];assumption))) (fail)
 clear c0 c1 c2 c3 c4 c5 c6 c7;go_wp2
 go_loopg [6,7,8,9,10,11,12,13,35] 64 (fun gk a b c d e f g h i wr=> ∃(k:Nat) (v:S8),k<=64∧gk=64-k∧i= .int .i64 k∧Hid (v=rnds (US [s0,s1,s2,s3,s4,s5,s6,s7]) rs ws k)∧a= .int .u32 v.a∧b= .int .u32 v.b∧c= .int .u32 v.c∧d= .int .u32 v.d∧e= .int .u32 v.e∧f= .int .u32 v.f∧g= .int .u32 v.g∧h= .int .u32 v.h∧Fo w wr [s0,s1,s2,s3,s4,s5,s6,s7] ws rs N)
 case atStart=>go_light;exact⟨0,US [s0,s1,s2,s3,s4,s5,s6,s7],Ln _,rfl,rfl,rfl,rfl,rfl,rfl,rfl,rfl,rfl,rfl,rfl,xA.drew.drew⟩
 case round=>
  clear xA;obtain⟨k,v,hk,rfl,rfl,hv,rfl,rfl,rfl,rfl,rfl,rfl,rfl,rfl,xA⟩:=hrel
  by_cases hlt:k<64
  ·have xK:(0:Int)<=(k:Int):=Lh _;have xL:(k:Int)<64:=by omega
   have cr:=Qd xA.rs (i:=k) (by omega)
   have cw:=Qd xA.ws (i:=k) (by omega)
   have HV:Hid (∀v',v'=v.rnd (rs.getD k 0) (ws.getD k 0)->v'=rnds (US [s0,s1,s2,s3,s4,s5,s6,s7]) rs ws (k+1)):=fun v' h=>by
    rw[h,show v=rnds (US [s0,s1,s2,s3,s4,s5,s6,s7]) rs ws k from hv];rfl
   have HF:Hid (Fo w wr.drew [s0,s1,s2,s3,s4,s5,s6,s7] ws rs N):=xA.drew;clear xA hv;generalize rs.getD k 0=r at *;generalize ws.getD k 0=x at *;obtain⟨a,b,c,d,e,f,g,h⟩:=v
   dsimp only at *
   go_wp2
   go_region_held3 (fun w'=>w'.cell? ⟨3,k,none⟩=some (.int .u32 r)∧w'.cell? ⟨N,k,none⟩=some (.int .u32 x)) (first|assumption|(refine⟨?_,?_⟩ <;> first|assumption|(rw[Nu];assumption))) (first|(go_at_call 412;refine(OW _ _ _ (by decide) (by decide)).mono ?_;rintro e w' ⟨rfl,rfl⟩))
   go_wp2_with (go_at_call 412;refine(OW _ _ _ (by decide) (by decide)).mono ?_;rintro e w' ⟨rfl,rfl⟩)
   go_roundg (64-(k+1))
   case rel=>go_light;refine⟨k+1,_,by omega,rfl,by go_num,HV.out _ rfl,?_,rfl,rfl,rfl,?_,rfl,rfl,rfl,HF.out⟩ <;> simp only[S8.rnd,oneI,twoI,IntKind.wrap_u32']
   case measure=>go_light;omega
  ·obtain rfl:k=64:=by omega
   clear hk hlt;have c0:wr.cell? ⟨w.heap.size,0,none⟩=some (.int .u32 s0):=Qd xA.st (i:=0) (by simp)
   have c1:wr.cell? ⟨w.heap.size,1,none⟩=some (.int .u32 s1):=Qd xA.st (i:=1) (by simp)
   have c2:wr.cell? ⟨w.heap.size,2,none⟩=some (.int .u32 s2):=Qd xA.st (i:=2) (by simp)
   have c3:wr.cell? ⟨w.heap.size,3,none⟩=some (.int .u32 s3):=Qd xA.st (i:=3) (by simp)
   have c4:wr.cell? ⟨w.heap.size,4,none⟩=some (.int .u32 s4):=Qd xA.st (i:=4) (by simp)
   have c5:wr.cell? ⟨w.heap.size,5,none⟩=some (.int .u32 s5):=Qd xA.st (i:=5) (by simp)
   have c6:wr.cell? ⟨w.heap.size,6,none⟩=some (.int .u32 s6):=Qd xA.st (i:=6) (by simp)
   have c7:wr.cell? ⟨w.heap.size,7,none⟩=some (.int .u32 s7):=Qd xA.st (i:=7) (by simp)
   have xC:=xA.res;have xE:=xA.below;clear xA;have HV:Hid (YS rs [s0,s1,s2,s3,s4,s5,s6,s7] blk=sumI ⟨s0,s1,s2,s3,s4,s5,s6,s7⟩ v):=by
    show _=_
    rw[show v=_ from hv,show ws=_ from HE];rfl
   clear hv;obtain⟨a,b,c,d,e,f,g,h⟩:=v
   dsimp only at *
   go_wp2_with (refine wpList_store_mid rfl 346 _ _ rfl (w.heap.size+1+1) 0 (cW [_,_,_,_,_,_,_,_]).toArray rfl rfl xC UF (all_oneCell_toArray (Uz _)) ?_)
   refine LD (v := .agg (cW (sumI ⟨s0,s1,s2,s3,s4,s5,s6,s7⟩ ⟨a,b,c,d,e,f,g,h⟩)).toArray) ?_ rfl ⟨by rw[HV.out],?_⟩
   ·refine QG results404 _ _ (w.heap.size+1+1) 0 (cW (sumI ⟨s0,s1,s2,s3,s4,s5,s6,s7⟩ ⟨a,b,c,d,e,f,g,h⟩)) (.array 8 110) ?_ ?_ underlying346 rfl UF
    ·rfl
    ·go_light;simp only[sumI,IntKind.wrap_u32'];exact World.rangeAt_setCells_same _ _ _ _ xC
   ·go_light;exact Qq xE (by omega) _ _
def JE(blk:List Int)(u:Nat):List Int:=(blk.set u 128).take (u+1)++List.replicate (64-(u+1)) 0
def Uq(l:List Int)(b:Int):Nat->List Int
 | 0=>l
 | k+1=>(Uq l b k).set (63-k) (IntKind.u8.wrap (b/2^(8*k)))
def Q2(rs st blk:List Int)(n:Nat):List Int :=
 if 55<n%64 then YS rs (YS rs st (JE blk (n%64))) (Uq (List.replicate 64 0) (IntKind.u64.wrap ((n:Int)*8)) 8)
 else YS rs st (Uq (JE blk (n%64)) (IntKind.u64.wrap ((n:Int)*8)) 8)
theorem Qkt{blk:List Int}(h:blk.length=64){u:Nat}(hu:u<64):(JE blk u).length=64:=by
 simp[JE,h];omega
theorem QbQ(rs st blk:List Int)(n:Nat):(Q2 rs st blk n).length=8:=by
 unfold Q2;split <;> rfl
structure Hs(w:World)(p:Nat)(st blk:List Int)(n:Nat):Prop where
 stl:st.length=8
 blkl:blk.length=64
 st:w.rangeAt p 0 (cW st)
 blk:w.rangeAt p 8 (cB blk)
 len:w.cell? ⟨p,72,none⟩=some (.int .u64 n)
 there:w.there p 0 73
theorem Hs.lt{p:Nat}{st blk:List Int}(h:Hs w p st blk n):p<w.heap.size:=Lo _ _ h.len
theorem Hs.later{p:Nat}{st blk:List Int}(h:Hs w p st blk n)(hb:Below B w w')(hp:p<B):Hs w' p st blk n :=
 ⟨h.stl,h.blkl,Qn hb hp h.st,Qn hb hp h.blk,by rw[hb.cell (p:=⟨p,72,none⟩) hp];exact h.len,QX hb hp h.there⟩
theorem QgM(h:w.rangeAt b 0 cs)(k:Nat)(vs:List Value)(hk:k+vs.length=cs.length)(ht:w.there b k vs.length) :
  (w.setCells b k vs).rangeAt b 0 (cs.take k++vs):=fun j u hu=>by
 rw[Ll]
 by_cases hj:j<k
 ·rw[Ly (by simp;omega),LT,Lf hj] at hu
  rw[World.cell?_setCells_out b vs k w ⟨b,j,none⟩ (fun _ _=>Or.inl hj)]
  have:=h j u hu
  rwa [Ll] at this
 ·rw[LI (by simp;omega)] at hu
  have hlen:(cs.take k).length=k:=by simp;omega
  rw[hlen] at hu;have xA:j-k<vs.length:=(List.getElem?_eq_some_iff.1 hu).1
  have:=World.cell?_setCells_in b vs k w (fun i hi=>(ht i hi).1) (j-k) xA
  rw[show k+(j-k)=j by omega] at this
  rw[this,<-hu,Lk xA]
structure Cl(w wc:World)(st last:List Int)(bs bl:Nat):Prop where
 stl:st.length=8
 lastl:last.length=64
 below:Bl w wc
 hbs:w.heap.size+1<=bs
 hbl:w.heap.size+1<=bl
 ne:bs≠bl
 st:wc.rangeAt bs 0 (cW st)
 stt:wc.there bs 0 8
 last:wc.rangeAt bl 0 (cB last)
 lastt:wc.there bl 0 64
 res:wc.there w.heap.size 0 8
variable{wc:World}{bl bs:Nat}
theorem Cl.one(w:World)(st blk:List Int)(hs:st.length=8)(hb:blk.length=64)(z:List Int)(hz:z.length=8)(z2:List Int)(hz2:z2.length=64)(t1 t2 t3:TypeId) :
  Cl w ((((w.alloc (.cells (cW z).toArray t1)).alloc (.cells (cW st).toArray t2)).alloc (.cells (cB z2).toArray t3)).drew.setCells (w.heap.size+1+1) 0 (cB blk)) st blk (w.heap.size+1) (w.heap.size+1+1):=by
 have r1:=Qv (w.alloc (.cells (cW z).toArray t1)) (cW st) t2;have q1:=Ql (w.alloc (.cells (cW z).toArray t1)) (cW st).toArray t2 8 (by simp[Qm,hs])
 have q2:=Ql ((w.alloc (.cells (cW z).toArray t1)).alloc (.cells (cW st).toArray t2)) (cB z2).toArray t3 64 (by simp[QA,hz2])
 have q0:=Ql w (cW z).toArray t1 8 (by simp[Qm,hz])
 simp only[World.size_alloc] at r1 q1 q2 q0;refine⟨hs,hb,Qq ((((Lb _ _).alloc (La _) _).alloc (by simp) _).alloc (by simp;omega) _).drew (by omega) _ _,by omega,by omega,by omega,?_,?_,?_,?_,?_⟩
 ·exact World.rangeAt_setCells_apart (by rw[World.rangeAt_drew];exact World.rangeAt_alloc r1 _) _ _ _ (Or.inl (by omega))
 ·exact World.there_setCells (by rw[World.there_drew];exact World.there_alloc q1 _) _ _ _
 ·exact World.rangeAt_setCells_same _ _ _ _ (by rw[World.there_drew,QA,hb];exact q2)
 ·exact World.there_setCells (by rw[World.there_drew];exact q2) _ _ _
 ·exact World.there_setCells (by rw[World.there_drew];exact World.there_alloc (World.there_alloc q0 _) _) _ _ _
theorem Cl.two(w:World)(st blk:List Int)(hs:st.length=8)(hb:blk.length=64)(z:List Int)(hz:z.length=8)(z2:List Int)(hz2:z2.length=64)(t1 t2 t3:TypeId) :
  Cl w ((((w.alloc (.cells (cW z).toArray t1)).alloc (.cells (cB z2).toArray t3)).alloc (.cells (cW st).toArray t2)).drew.setCells (w.heap.size+1) 0 (cB blk)) st blk (w.heap.size+1+1) (w.heap.size+1):=by
 have r1:=Qv ((w.alloc (.cells (cW z).toArray t1)).alloc (.cells (cB z2).toArray t3)) (cW st) t2;have q1:=Ql ((w.alloc (.cells (cW z).toArray t1)).alloc (.cells (cB z2).toArray t3)) (cW st).toArray t2 8 (by simp[Qm,hs])
 have q2:=Ql (w.alloc (.cells (cW z).toArray t1)) (cB z2).toArray t3 64 (by simp[QA,hz2])
 have q0:=Ql w (cW z).toArray t1 8 (by simp[Qm,hz])
 simp only[World.size_alloc] at r1 q1 q2 q0;refine⟨hs,hb,Qq ((((Lb _ _).alloc (La _) _).alloc (by simp) _).alloc (by simp;omega) _).drew (by omega) _ _,by omega,by omega,by omega,?_,?_,?_,?_,?_⟩
 ·exact World.rangeAt_setCells_apart (by rw[World.rangeAt_drew];exact r1) _ _ _ (Or.inl (by omega))
 ·exact World.there_setCells (by rw[World.there_drew];exact q1) _ _ _
 ·exact World.rangeAt_setCells_same _ _ _ _ (by rw[World.there_drew,QA,hb];exact World.there_alloc q2 _)
 ·exact World.there_setCells (by rw[World.there_drew];exact World.there_alloc q2 _) _ _ _
 ·exact World.there_setCells (by rw[World.there_drew];exact World.there_alloc (World.there_alloc q0 _) _) _ _ _
theorem Cl.set{st last:List Int}(h:Cl w wc st last bs bl)(i:Nat)(v:Int):Cl w (wc.setCell ⟨bl,i,none⟩ (.int .u8 v)) st (last.set i v) bs bl:=by
 have xA:=h.hbl;refine⟨h.stl,by rw[IE];exact h.lastl,h.below.setCell (by show w.heap.size<=bl;omega) _,h.hbs,h.hbl,h.ne,Uh h.st (Ne.symm h.ne) _,QJ h.stt _ _,?_,QJ h.lastt _ _,QJ h.res _ _⟩
 have:=YH h.last i (.int .u8 v)
 rwa [Ll,Qgb] at this
theorem Cl.rest{st last:List Int}(h:Cl w wc st last bs bl)(k:Nat)(hk:k<=64) :
  Cl w (wc.setCells bl k (List.replicate (64-k) (.int .u8 0))) st (last.take k++List.replicate (64-k) 0) bs bl:=by
 have xA:=h.hbl;have hl:=h.lastl;have e:(List.replicate (64-k) (Value.int .u8 0))=cB (List.replicate (64-k) 0):=by simp[cB]
 refine⟨h.stl,by simp[hl];omega,Qq h.below (by omega) _ _,h.hbs,h.hbl,h.ne,World.rangeAt_setCells_apart h.st _ _ _ (Or.inl h.ne),World.there_setCells h.stt _ _ _,?_,World.there_setCells h.lastt _ _ _,World.there_setCells h.res _ _ _⟩
 have:=QgM h.last k (List.replicate (64-k) (Value.int .u8 0)) (by simp[QA,hl];omega) (fun j hj=>by
  have:=h.lastt (k+j) (by simp at hj;omega)
  rwa [Ll] at this)
 rw[e] at this;rw[e]
 simpa [cB,List.map_take] using this
theorem Cl.later{st last:List Int}(h:Cl w wc st last bs bl)(hb:Bl wc w'):Cl w w' st last bs bl:=by
 have h1:=JZ h.stt (by decide)
 have h2:=JZ h.lastt (by decide)
 have h3:=JZ h.res (by decide)
 exact⟨h.stl,h.lastl,h.below.trans (hb.mono (by omega)),h.hbs,h.hbl,h.ne,Qn hb h1 h.st,QX hb h1 h.stt,Qn hb h2 h.last,QX hb h2 h.lastt,QX hb h3 h.res⟩
theorem Cl.storeSt{st last:List Int}(h:Cl w wc st last bs bl)(st':List Int)(hs:st'.length=8):Cl w (wc.setCells bs 0 (cW st')) st' last bs bl:=by
 have xA:=h.hbs;exact⟨hs,h.lastl,Qq h.below (by omega) _ _,h.hbs,h.hbl,h.ne,World.rangeAt_setCells_same _ _ _ _ (by rw[Qm,hs];exact h.stt),World.there_setCells h.stt _ _ _,World.rangeAt_setCells_apart h.last _ _ _ (Or.inl (Ne.symm h.ne)),World.there_setCells h.lastt _ _ _,World.there_setCells h.res _ _ _⟩
theorem Cl.storeLast{st last:List Int}(h:Cl w wc st last bs bl)(l':List Int)(hs:l'.length=64):Cl w (wc.setCells bl 0 (cB l')) st l' bs bl:=by
 have xA:=h.hbl;exact⟨h.stl,hs,Qq h.below (by omega) _ _,h.hbs,h.hbl,h.ne,World.rangeAt_setCells_apart h.st _ _ _ (Or.inl h.ne),World.there_setCells h.stt _ _ _,World.rangeAt_setCells_same _ _ _ _ (by rw[QA,hs];exact h.lastt),World.there_setCells h.lastt _ _ _,World.there_setCells h.res _ _ _⟩
theorem QoX(w:World):(Go.sizeOf 5).run prog w= .ok 1 w:=by kernel_rfl
theorem QqM(w:World):(zeroValue 5).run prog w= .ok (.int .u8 0) w:=by kernel_rfl
theorem QcA(b o v:Nat)(m:Nat)(hm:v+m=64)(h0:0<m)(w:World) :
  (Instr.sliceAt 184 (.pointer (some ⟨b,o,none⟩)) (some (.int .i64 v)) none none).run prog w= .ok (.slice (some ⟨b,o+v,none⟩) m m) w:=by
 have h:=run_sliceAt_array_l (P:=prog) w 184 ⟨b,o,none⟩ (by kernel_rfl) .i64 (v:Int) (Lh _) (by
  have e:prog.arrayLen 184=64:=by kernel_rfl
  rw[e];omega)
 have e:prog.arrayLen 184=64:=by kernel_rfl
 have e2:prog.elem 184=5:=by kernel_rfl
 rw[h,e,e2,QoX];have e3:64-v=m:=by omega
 have e4:¬64=v:=by omega
 simp[slicedAt,e3,e4,Addr.add_mid]
theorem Qgi(w:World)(b o m:Nat)(h0:0<m)(ht:w.there b o m) :
  (Builtin.clear_ #[127] 0 #[.slice (some ⟨b,o,none⟩) m m]).run prog w= .ok (.tuple #[]) (w.setCells b o (List.replicate m (.int .u8 0))) :=
 Lib.run_clear_slice w 127 5 0 (.int .u8 0) underlying127 QqM rfl rfl b o m m h0 (fun j hj=>(ht j hj).1) (fun j hj=>(ht j hj).2)
theorem Qgh(w:World)(a:OA):(Builtin.clear_ #[127] 0 #[.slice a 0 0]).run prog w= .ok (.tuple #[]) w:=by
 cases a <;> simp[Builtin.clear_,run_underlying underlying127]
theorem Oq(n u:Nat)(h:Hid (n%64=u))(w:World)(b:Nat)(hc:w.cell? ⟨b,72,none⟩=some (.int .u64 n)) :
  Re 403 #[Pq b] w (.int .i64 u):=by
 refine(Qf2 n w b (Lh _) hc).mono ?_
 rintro e w' ⟨rfl,rfl⟩;have h:=h.out;exact⟨by rw[show((n:Int)%64)=(u:Int) by omega],rfl⟩
theorem closed_any (w:World) (p:Nat) (st blk:List Int) (n:Nat) (hh:Hs w p st blk n) (rs:List Int) (hrl:rs.length=64) (hr:w.rangeAt 3 0 (cW rs)) :
    Zr 405 #[Pq p] w (.agg (cW (Q2 rs st blk n)).toArray):=by
  obtain⟨s0,s1,s2,s3,s4,s5,s6,s7,rfl⟩:=Qcc hh.stl;have hp:p<w.heap.size:=Lo _ _ hh.len;have hl:=hh.blkl;have h1w:3<w.heap.size:=QF hr (by intro h;have:=Lv List.length h;simp[Qm,hrl] at this)
  have c0:w.cell? ⟨p,0,none⟩=some (.int .u32 s0):=Qd hh.st (i:=0) (by simp)
  have c1:w.cell? ⟨p,1,none⟩=some (.int .u32 s1):=Qd hh.st (i:=1) (by simp)
  have c2:w.cell? ⟨p,2,none⟩=some (.int .u32 s2):=Qd hh.st (i:=2) (by simp)
  have c3:w.cell? ⟨p,3,none⟩=some (.int .u32 s3):=Qd hh.st (i:=3) (by simp)
  have c4:w.cell? ⟨p,4,none⟩=some (.int .u32 s4):=Qd hh.st (i:=4) (by simp)
  have c5:w.cell? ⟨p,5,none⟩=some (.int .u32 s5):=Qd hh.st (i:=5) (by simp)
  have c6:w.cell? ⟨p,6,none⟩=some (.int .u32 s6):=Qd hh.st (i:=6) (by simp)
  have c7:w.cell? ⟨p,7,none⟩=some (.int .u32 s7):=Qd hh.st (i:=7) (by simp)
  have c72:=hh.len;have hrb:=hh.blk;have hu:=underlying184;obtain⟨u,hun⟩:∃u:Nat,n%64=u:=⟨_,rfl⟩;have hu64:Hid (n%64=u):=hun;clear hun;have hi:(prog.info? 184).map (·.size)=some (cB blk).length:=by rw[QA,hl];exact Qa7
  have hl':(cB blk).length=64:=by rw[QA,hl]
  have h1:=QaM blk;have hA:∀(r o:Obj),(((w.alloc r).alloc o).alloc (.cells Zc 184)).drew.there (w.heap.size+1+1) 0 64:=fun r o=>by
    have q2:=Ql ((w.alloc r).alloc o) (cB (List.replicate 64 0)).toArray 184 64 (by simp[QA])
    simp only[World.size_alloc] at q2;rw[World.there_drew];exact q2
  have hB:∀(r o:Obj),(((w.alloc r).alloc (.cells Zc 184)).alloc o).drew.there (w.heap.size+1) 0 64:=fun r o=>by
    have q2:=Ql (w.alloc r) (cB (List.replicate 64 0)).toArray 184 64 (by simp[QA])
    simp only[World.size_alloc] at q2;rw[World.there_drew];exact World.there_alloc q2 _
  have HK:Hid (∀w',Bl w w'->(w'.cell? ⟨p,0,none⟩=some (.int .u32 s0)∧w'.cell? ⟨p,1,none⟩=some (.int .u32 s1)∧w'.cell? ⟨p,2,none⟩=some (.int .u32 s2)∧w'.cell? ⟨p,3,none⟩=some (.int .u32 s3)∧w'.cell? ⟨p,4,none⟩=some (.int .u32 s4)∧w'.cell? ⟨p,5,none⟩=some (.int .u32 s5)∧w'.cell? ⟨p,6,none⟩=some (.int .u32 s6)∧w'.cell? ⟨p,7,none⟩=some (.int .u32 s7)∧w'.cell? ⟨p,72,none⟩=some (.int .u64 n)∧w'.rangeAt p 8 (cB blk)∧Bl w w')):=fun w' hb=>by
    refine⟨?_,?_,?_,?_,?_,?_,?_,?_,?_,Qn hb hp hrb,hb⟩ <;> (rw[hb.cell hp];assumption)
  have HH:Hid (Hs w p [s0,s1,s2,s3,s4,s5,s6,s7] blk n):=hh;clear hh
  go_enter func405,ntmps405;go_wp2
  go_cut [3,4,5] from 8 (fun q3 q4 q5 wc=> ∃bs bl:Nat,q3=Pq bs∧q4=Pq bl∧q5= .int .i64 u∧Cl w wc [s0,s1,s2,s3,s4,s5,s6,s7] blk bs bl)
  case first=>
   go_region_held3 (fun w'=>w'.cell? ⟨p,0,none⟩=some (.int .u32 s0)∧w'.cell? ⟨p,1,none⟩=some (.int .u32 s1)∧w'.cell? ⟨p,2,none⟩=some (.int .u32 s2)∧w'.cell? ⟨p,3,none⟩=some (.int .u32 s3)∧w'.cell? ⟨p,4,none⟩=some (.int .u32 s4)∧w'.cell? ⟨p,5,none⟩=some (.int .u32 s5)∧w'.cell? ⟨p,6,none⟩=some (.int .u32 s6)∧w'.cell? ⟨p,7,none⟩=some (.int .u32 s7)∧w'.cell? ⟨p,72,none⟩=some (.int .u64 n)∧w'.rangeAt p 8 (cB blk)∧Bl w w')
    ((refine HK.out _ ?_;repeat (first|exact Lb _ _|assumption|apply Below.drew|(refine Below.alloc ?_ (by simp <;> omega) _)|(refine Qq ?_ (by omega) _ _)))) (first|(go_at_call 403;refine(Oq n u hu64 _ p ?_).mono ?_;(simp[*]);rintro e w' ⟨rfl,rfl⟩))
   all_goals
     go_wp2
     go_meet
     case rel=>
      go_light
      first
        | exact⟨_,_,rfl,rfl,rfl,Cl.one w [s0,s1,s2,s3,s4,s5,s6,s7] blk rfl hl [0,0,0,0,0,0,0,0] rfl (List.replicate 64 0) rfl 346 346 184⟩
        | exact⟨_,_,rfl,rfl,rfl,Cl.two w [s0,s1,s2,s3,s4,s5,s6,s7] blk rfl hl [0,0,0,0,0,0,0,0] rfl (List.replicate 64 0) rfl 346 346 184⟩
  case rest=>
   obtain⟨bs,bl,rfl,rfl,rfl,hcl⟩:=hcut;clear hA hB HK c0 c1 c2 c3 c4 c5 c6 c7;have hu0:(0:Int)<=(u:Int):=Lh _;have hu1:(u:Int)<64:=by have:=hu64.out;omega
   have cu:wc.cell? ⟨bl,u,none⟩=some (.int .u8 (blk.getD u 0)):=Yk hcl.last (by omega)
   have fu:wc.frozen? ⟨bl,u,none⟩=false:=by have:=(hcl.lastt u (by omega)).2;rwa [Ll] at this
   have HC:Hid (Cl w (wc.setCell ⟨bl,u,none⟩ (.int .u8 128)) [s0,s1,s2,s3,s4,s5,s6,s7] (blk.set u 128) bs bl):=hcl.set u 128;clear hcl;obtain⟨v,hv⟩:∃v:Nat,u+1=v:=⟨_,rfl⟩;have ev:(u:Int)+1=(v:Int):=by omega
   have HV:Hid (u+1=v):=hv;clear hv
   go_upto_region 3 with (fail)
   go_cut [] from 18 (fun wx=>Cl w wx [s0,s1,s2,s3,s4,s5,s6,s7] (JE blk u) bs bl)
   case first=>
    by_cases h63:v=64
    · subst h63;have hclr:(Builtin.clear_ #[127] 0 #[.slice (Zp bl) 0 0]).run prog (wc.setCell ⟨bl,u,none⟩ (.int .u8 128))= .ok (.tuple #[]) (wc.setCell ⟨bl,u,none⟩ (.int .u8 128)):=Qgh _ _;go_wp2
      go_meet
      case rel=>
        go_light;have h1:=HC.out;have h2:=HV.out;have e:JE blk u=blk.set u 128:=by
          unfold JE;rw[Lp (by simp;omega)];simp;omega
        rw[e];exact h1
    · obtain⟨m,hm⟩:∃m:Nat,v+m=64:=⟨64-v,by have:=HV.out;omega⟩
      have hm0:0<m:=by omega
      have hsl:=fun w'=>QcA bl 0 v m hm hm0 w'
      have hclr:(Builtin.clear_ #[127] 0 #[.slice (some ⟨bl,v,none⟩) m m]).run prog (wc.setCell ⟨bl,u,none⟩ (.int .u8 128))= .ok (.tuple #[]) ((wc.setCell ⟨bl,u,none⟩ (.int .u8 128)).setCells bl v (List.replicate m (.int .u8 0))):=Qgi _ _ _ _ hm0 (fun j hj=>by
        have:=HC.out.lastt (v+j) (by omega)
        rwa [Ll] at this)
      simp only[Nat.zero_add] at hsl;have HM:Hid (v+m=64):=hm;clear hm;go_wp2
      go_meet
      case rel=>
        go_light;have h1:=HC.out.rest v (by have:=HM.out;omega)
        have h2:=HV.out;have e:64-v=m:=by have:=HM.out;omega
        rw[e] at h1;unfold JE;rw[h2,e];exact h1
   case rest=>
    have hcl:=hcut;clear hcut HC cu fu;have HB:Hid (∃b8,b8=IntKind.u64.wrap ((n:Int)*8)):=⟨_,rfl⟩
    go_upto_if 26 with (fail)
    go_cut [] from 18 (fun wx=> ∃st2 last2:List Int,Hid (Q2 rs [s0,s1,s2,s3,s4,s5,s6,s7] blk n=YS rs st2 (Uq last2 (IntKind.u64.wrap ((n:Int)*8)) 8))∧Cl w wx st2 last2 bs bl)
    case first=>
      by_cases h55:v+8<=64
      · have h55':¬((64:Int)<(v:Int)+8):=by omega
        go_wp2
        go_meet
        case rel=>
          go_light;refine⟨_,_,?_,hcl⟩
          have h2:=HV.out;have h3:=hu64.out
          show _=_
          unfold Q2;rw[Le (by omega),h3]
      · have h55':(64:Int)<(v:Int)+8:=by omega
        have hi34:(prog.info? 346).map (·.size)=some (cW [s0,s1,s2,s3,s4,s5,s6,s7]).length:=UF;have hle:=Qkt hl (show u<64 by omega)
        have hi35:(prog.info? 184).map (·.size)=some (cB (JE blk u)).length:=by rw[QA,hle];exact Qa7
        have hrc:wc.rangeAt 3 0 (cW rs):=Qn hcl.below h1w hr;have hst:=hcl.st;have hla:=hcl.last;have HL:Hid (∀w',Bl wc w'->Cl w w' [s0,s1,s2,s3,s4,s5,s6,s7] (JE blk u) bs bl):=fun w' hb=>hcl.later hb
        clear hcl;have hfo:=fun w'=>OM [s0,s1,s2,s3,s4,s5,s6,s7] rfl (JE blk u) hle w' rs hrl
        generalize hF:YS rs [s0,s1,s2,s3,s4,s5,s6,s7] (JE blk u)=F at hfo;have hFl:F.length=8:=by rw[<-hF];rfl
        have hiF:(prog.info? 346).map (·.size)=some (cW F).toArray.size:=by rw[NO,Qm,hFl];exact UF
        have HF:Hid (YS rs [s0,s1,s2,s3,s4,s5,s6,s7] (JE blk u)=F):=hF;clear hF
        go_wp2_with (first|(refine wpList_load_mid rfl 346 _ rfl bs 0 rfl _ _ hst underlying346 rfl hi34 ?_)|(refine wpList_load_mid rfl 184 _ rfl bl 0 rfl _ _ hla underlying184 rfl hi35 ?_)|(go_at_call 404;refine(hfo _ hrc).mono ?_;rintro e w' ⟨rfl,hbw⟩)|(refine wpList_store_mid rfl 346 _ _ rfl bs 0 (cW F).toArray rfl rfl ?_ hiF (all_oneCell_toArray (Uz F)) ?_;exact(by rw[NO,Qm,hFl];exact(HL.out _ hbw).stt))|(refine wpList_store_mid rfl 184 _ _ rfl bl 0 (cB (List.replicate 64 0)).toArray rfl rfl ?_ Qa7 (all_oneCell_toArray (QaM _)) ?_;exact((HL.out _ hbw).storeSt F hFl).lastt))
        go_simp
        go_meet
        case rel=>
          go_light;refine⟨_,_,?_,((HL.out _ hbw).storeSt F hFl).storeLast _ rfl⟩
          have h2:=HV.out;have h3:=hu64.out
          show _=_
          unfold Q2;rw[Lf (by omega),h3,HF.out]
          rfl
    case rest=>
      obtain⟨st2,last2,HC,hcl⟩:=hcut;have c72':wc.cell? ⟨p,72,none⟩=some (.int .u64 n):=by rw[hcl.below.cell (p:=⟨p,72,none⟩) hp];exact c72
      go_wp2;generalize hb8:IntKind.u64.wrap ((n:Int)*8)=b8 at *;clear hb8
      go_loopg [36] 8 (fun g i wr=> ∃k:Nat,k<=8∧g=8-k∧i= .int .i64 k∧Cl w wr st2 (Uq last2 b8 k) bs bl)
      case atStart=>go_light;exact⟨0,Ln _,rfl,rfl,hcl⟩
      case round=>
        clear hcl c72';obtain⟨k,hk,rfl,rfl,hcl⟩:=hrel
        by_cases hlt:k<8
        · have hk0:(0:Int)<=(k:Int):=Lh _;have hk8:(k:Int)<8:=by omega
          obtain⟨m,hm⟩:∃m:Nat,k+m=63:=⟨63-k,by omega⟩
          obtain⟨m8,hm8⟩:∃m8:Nat,8*k=m8:=⟨_,rfl⟩;have em:(63:Int)-(k:Int)=(m:Int):=by omega
          have em8:(8:Int)*(k:Int)=(m8:Int):=by omega
          have bm0:(0:Int)<=(m:Int):=Lh _;have bm1:(m:Int)<64:=by omega
          have b80:(0:Int)<=(m8:Int):=Lh _;have b81:(m8:Int)<64:=by omega
          have cm:wr.cell? ⟨bl,m,none⟩=some (.int .u8 ((Uq last2 b8 k).getD m 0)):=Yk hcl.last (by have:=hcl.lastl;omega)
          have fm:wr.frozen? ⟨bl,m,none⟩=false:=by have:=(hcl.lastt m (by omega)).2;rwa [Ll] at this
          have HF:Hid (∀x,Cl w (wr.setCell ⟨bl,m,none⟩ (.int .u8 x)) st2 ((Uq last2 b8 k).set m x) bs bl):=fun x=>hcl.set m x
          have HV:Hid (Uq last2 b8 (k+1)=(Uq last2 b8 k).set m (IntKind.u8.wrap (b8/2^m8))):=by
            show _=_
            rw[Uq,<-hm8,show 63-k=m by omega]
          clear hcl hm hm8;generalize (Uq last2 b8 k).getD m 0=z at *;go_wp2
          go_roundg (8-(k+1))
          case rel=>
            go_light;refine⟨k+1,by omega,rfl,by go_num,?_⟩
            rw[HV.out];exact HF.out _
          case measure=>go_light;omega
        · obtain rfl:k=8:=by omega
          clear hk hlt;have hi34:(prog.info? 346).map (·.size)=some (cW st2).length:=by rw[Qm,hcl.stl];exact UF
          have hi35:(prog.info? 184).map (·.size)=some (cB (Uq last2 b8 8)).length:=by rw[QA,hcl.lastl];exact Qa7
          have hrc:wr.rangeAt 3 0 (cW rs):=Qn hcl.below h1w hr;have hst:=hcl.st;have hla:=hcl.last;have HL:Hid (∀w',Bl wr w'->Cl w w' st2 (Uq last2 b8 8) bs bl):=fun w' hb=>hcl.later hb
          have hfo:=fun w'=>OM st2 hcl.stl (Uq last2 b8 8) hcl.lastl w' rs hrl
          clear hcl;rw[<-HC.out] at hfo;have hFl:=QbQ rs [s0,s1,s2,s3,s4,s5,s6,s7] blk n;generalize hE:Q2 rs [s0,s1,s2,s3,s4,s5,s6,s7] blk n=F at hfo hFl;have hiF:(prog.info? 346).map (·.size)=some (cW F).toArray.size:=by rw[NO,Qm,hFl];exact UF
          have hszF:(cW F).toArray.size=8:=by simp[Qm,hFl]
          have hiF2:(prog.info? 346).map (·.size)=some (cW F).length:=by rw[Qm,hFl];exact UF
          have HE:Hid (Q2 rs [s0,s1,s2,s3,s4,s5,s6,s7] blk n=F):=hE;clear hE HC
          go_wp2_with (first|(refine wpList_load_mid rfl 346 _ rfl bs 0 rfl _ _ hst underlying346 rfl hi34 ?_)|(refine wpList_load_mid rfl 184 _ rfl bl 0 rfl _ _ hla underlying184 rfl hi35 ?_)|(go_at_call 404;refine(hfo _ hrc).mono ?_;rintro e w' ⟨rfl,hbw⟩)|(refine wpList_store_mid rfl 346 _ _ rfl w.heap.size 0 (cW F).toArray rfl rfl ?_ hiF (all_oneCell_toArray (Uz F)) ?_;exact(by rw[hszF];exact(HL.out _ hbw).res)))
          refine LD (v := .agg (cW F).toArray) ?_ rfl ⟨by rw[HE.out],?_⟩
          · refine QG results405 _ _ w.heap.size 0 (cW F) (.array 8 110) ?_ ?_ underlying346 rfl hiF2
            · rfl
            · go_light;exact World.rangeAt_setCells_same _ _ _ _ (by rw[Qm,hFl];exact(HL.out _ hbw).res)
          · go_light;exact Qq (HL.out _ hbw).below (La _) _ _
variable{P:Program}
def tB(s:BA):List Int:=s.data.toList.map fun x=>(x.toNat:Int)
theorem Yo(s:BA):(tB s).length=s.size:=by simp[tB]
theorem Qqo(s:BA):cB (tB s)=s.data.toList.map fun x=>Value.int .u8 x.toNat:=by simp[cB,tB,List.map_map,Function.comp_def]
theorem Qex(w:World)(dT sT ty elem:TypeId)(b o dLen dCap c:Nat)(t:BA)
  (hu:P.underlying dT=some (.slice elem)) (hz:∀w,(Go.sizeOf elem).run P w= .ok 1 w) (hc:Nat.min t.size dLen=c) (ht:w.there b o c) :
  (Builtin.copy_ #[dT,sT] ty #[.slice (some ⟨b,o,none⟩) dLen dCap,.string t]).run P w= .ok (goInt c) (w.setCells b o (cB ((tB t).take c))):=by
 have xB:c<=t.size:=by rw[<-hc];exact IU _ _
 have hl:(cB ((tB t).take c)).length=c:=by rw[QA,Lx,Yo];omega
 have xA:=run_storeCells_cells (P:=P) b o (cB ((tB t).take c)) 0 w (by rw[hl];intro j hj;simpa using (ht j hj).1) (by rw[hl];intro j hj;simpa using (ht j hj).2) (QaM _)
 have he:List.take c (List.map (fun x:UInt8=>Value.int IntKind.u8 (x.toNat:Int)) t.data.toList)=cB ((tB t).take c):=by
  rw[<-Qqo];simp[cB,List.map_take]
 simp only[Nat.add_zero] at xA;simp[Builtin.copy_,run_underlying hu,Builtin.lenOf,Builtin.firstCells,hz,hc];rw[he,xA]
 rfl
theorem QcM{ops:Array Oper}{o:Oper}{a:Act}{K:Act->World->Prop}{Q:Exit->Act->World->Prop}{E:Prop}
  (hg:o.guard=none) (d x:Operand) (dT sT:TypeId) (hop:o.op=Op.call { callee:=Callee.builtin Builtin.copy,args:=#[d,x],argTypes:=#[dT,sT] })
  (elem:TypeId) (hu:P.underlying dT=some (.slice elem)) (hz:∀w,(Go.sizeOf elem).run P w= .ok 1 w)
  (b off dLen dCap c:Nat) (hd:a.eval d= .slice (some ⟨b,off,none⟩) dLen dCap) (t:BA) (hx:a.eval x= .string t) (hc:Nat.min t.size dLen=c) (ht:w.there b off c)
  (hK:K (a.put o.dst (goInt c)) (w.setCells b off (cB ((tB t).take c)))) :
  if Region.wanted o (yielded ops a.tmps)=true then Oper.wp P o a w K Q else E:=by
 have hw:Region.wanted o (yielded ops a.tmps)=true:=by simp[Region.wanted,hg]
 rw[Lf hw];have xA:=Qex (P:=P) w dT sT o.type elem b off dLen dCap c t hu hz hc ht;unfold Oper.wp;simp[execOp,hop,resolve,invoke,builtin,hd,hx,xA,Result.andThen];exact hK
theorem Jh(h:w.rangeAt b o cs)(k:Nat)(vs:List Value)(hk:k+vs.length<=cs.length)(ht:w.there b (o+k) vs.length) :
  (w.setCells b (o+k) vs).rangeAt b o (cs.take k++vs++cs.drop (k+vs.length)):=fun j u hu=>by
 have hlen:(cs.take k).length=k:=by simp;omega
 by_cases hj:j<k
 ·rw[Lw,Ly (by omega),LT,Lf hj] at hu
  rw[World.cell?_setCells_out b vs (o+k) w ⟨b,o+j,none⟩ (fun _ _=>Or.inl (by show o+j<o+k;omega))]
  exact h j u hu
 ·by_cases hj2:j<k+vs.length
  ·rw[Ly (by simp;omega),LI (by omega),hlen] at hu
   have:=World.cell?_setCells_in b vs (o+k) w (fun i hi=>(ht i hi).1) (j-k) (by omega)
   rw[show o+k+(j-k)=o+j by omega] at this
   rw[this,<-hu,Lk (by omega)]
  ·rw[LI (by simp;omega)] at hu
   rw[NC,show k+vs.length+(j-(cs.take k++vs).length)=j by simp;omega] at hu
   rw[World.cell?_setCells_out b vs (o+k) w ⟨b,o+j,none⟩ (fun _ _=>Or.inr (by show o+k+vs.length<=o+j;omega))]
   exact h j u hu
def stN(rs iv t:List Int):Nat->List Int
 | 0=>iv
 | k+1=>YS rs (stN rs iv t k) ((t.drop (64*k)).take 64)
theorem OU(rs iv t x:List Int)(k:Nat)(h:64*k<=t.length):stN rs iv (t++x) k=stN rs iv t k:=by
 induction k with
 | zero=>rfl
 | succ k ih=>
  rw[stN,stN,ih (by omega),LR (by omega),Lu (by simp;omega)]
theorem QeB{rs iv t:List Int}(h:iv.length=8)(k:Nat):(stN rs iv t k).length=8:=by
 cases k with
 | zero=>exact h
 | succ k=>exact QiB _ _ _
def Hst(w:World)(p:Nat)(rs iv t:List Int):Prop :=
 ∃st blk,Hs w p st blk t.length∧st=stN rs iv t (t.length/64)∧blk.take (t.length%64)=t.drop (64*(t.length/64))
variable{iv rs t x:List Int}{c p q u:Nat}{a:World}
def blkC(blk x:List Int)(u:Nat):List Int:=blk.take u++x++blk.drop (u+x.length)
theorem QbN{blk:List Int}(h:blk.length=64)(hu:u+x.length<=64):(blkC blk x u).length=64:=by simp[blkC,h];omega
theorem QcU{blk:List Int}(h:blk.length=64)(_hu:u+x.length<=64)(ht:t.length%64=u)(hb:blk.take u=t.drop (64*(t.length/64))) :
  (blkC blk x u).take (u+x.length)=(t++x).drop (64*(t.length/64)):=by
 have e:(blk.take u++x).length=u+x.length:=by simp[h];omega
 rw[blkC,Lu (by omega),Lp (by omega),hb,LR (by omega)]
theorem Qkk(h:t.length%64+x.length<64):(t++x).length/64=t.length/64∧(t++x).length%64=t.length%64+x.length:=by
 simp only[List.length_append];omega
theorem Qkj(h:t.length%64+x.length=64):(t++x).length/64=t.length/64+1∧(t++x).length%64=0:=by
 simp only[List.length_append];omega
theorem Hs.copied{st blk:List Int}(h:Hs w p st blk n)(u:Nat)(x:List Int)(hu:u+x.length<=64):Hs (w.setCells p (8+u) (cB x)) p st (blkC blk x u) n:=by
 have hl:=h.blkl;refine⟨h.stl,QbN hl hu,?_,?_,?_,World.there_setCells h.there _ _ _⟩
 ·exact World.rangeAt_setCells_apart h.st _ _ _ (by right;left;rw[Qm,h.stl];omega)
 ·have:=Jh h.blk u (cB x) (by rw[QA,QA,hl];omega) (fun j hj=>by
   rw[QA] at hj;have:=h.there (8+u+j) (by omega)
   rwa [Ll] at this)
  simpa [blkC,cB,List.map_take,List.map_drop] using this
 ·rw[World.cell?_setCells_out p (cB x) (8+u) w ⟨p,72,none⟩ (fun _ _=>by right;show 8+u+(cB x).length<=72;rw[QA];omega)]
  exact h.len
theorem Hs.setLen{st blk:List Int}(h:Hs w p st blk n)(m:Nat):Hs (w.setCell ⟨p,72,none⟩ (.int .u64 m)) p st blk m:=by
 have hl:=h.blkl;have hs:=h.stl;refine⟨h.stl,h.blkl,?_,?_,?_,QJ h.there _ _⟩
 ·intro j u hu;have hj:j<8:=by have:=(List.getElem?_eq_some_iff.1 hu).1;rw[Qm,hs] at this;exact this
  rw[Lt _ _ _ _ (fun e=>by have:=Lv Addr.off e;simp at this;omega)]
  exact h.st j u hu
 ·intro j u hu;have hj:j<64:=by have:=(List.getElem?_eq_some_iff.1 hu).1;rw[QA,hl] at this;exact this
  rw[Lt _ _ _ _ (fun e=>by have:=Lv Addr.off e;simp at this;omega)]
  exact h.blk j u hu
 ·exact Nf _ _ _ h.len
theorem Hs.setState{st blk:List Int}(h:Hs w p st blk n)(st':List Int)(hs':st'.length=8):Hs (w.setCells p 0 (cW st')) p st' blk n:=by
 refine⟨hs',h.blkl,?_,?_,?_,World.there_setCells h.there _ _ _⟩
 ·exact World.rangeAt_setCells_same _ _ _ _ (by rw[Qm,hs'];exact fun j hj=>h.there j (by omega))
 ·exact World.rangeAt_setCells_apart h.blk _ _ _ (by right;right;rw[Qm,hs'];omega)
 ·rw[World.cell?_setCells_out p (cW st') 0 w ⟨p,72,none⟩ (fun _ _=>by right;show 0+(cW st').length<=72;rw[Qm,hs'];omega)]
  exact h.len
theorem Hs.drew{st blk:List Int}(h:Hs w p st blk n):Hs w.drew p st blk n :=
 ⟨h.stl,h.blkl,by rw[World.rangeAt_drew];exact h.st,by rw[World.rangeAt_drew];exact h.blk,h.len,by rw[World.there_drew];exact h.there⟩
theorem JJ(h:a.grownBy w (some b))(o:Nat)(vs:List Value):a.grownBy (w.setCells b o vs) (some b):=by
 induction vs generalizing o w with
 | nil=>exact h
 | cons c r ih=>exact ih (Lib.grownBy_setB h o c) (o+1)
theorem Qe5(h:a.grownBy w (some b))(hb:Bl w w'):a.grownBy w' (some b) :=
 Lib.grownBy_trans h ⟨hb.os,hb.tape,hb.output,hb.size,fun k hk _=>hb.block k hk⟩
theorem Qb5(h:a.grownBy w (some b)):a.grownBy w.drew (some b):=⟨h.os,h.tape,h.output,h.size,h.block⟩
theorem Qfw(h:a.grownBy w (some b))(hne:c≠b)(hr:a.rangeAt c o cs):w.rangeAt c o cs:=fun j u hu=>by
 have h1:=hr j u hu;have hlt:=Lo _ _ h1;rw[LE (w:=a) (h.block c hlt (fun e=>hne (NR e)))]
 exact h1
theorem Hs.ne_rounds{st blk:List Int}(h:Hs w p st blk n)(hl:rs.length=64)(hr:w.rangeAt q 0 (cW rs)):q≠p:=by
 rintro rfl;have h1:=Qd hr (i:=8) (by omega)
 have h2:=Qhi h.blk (i:=0) (by have:=h.blkl;omega)
 rw[Ik,h1] at h2;injection h2 with h2
 injection h2 with h2
 cases h2
theorem QcB(r:BA)(c:Nat):tB (r.extract c r.size)=(tB r).drop c:=by
 have:(r.extract c r.size).data.toList=r.data.toList.drop c:=by
  rw[Ii];simp[Array.toList_extract,List.extract]
  apply Lp
  simp
 rw[tB,this,tB,IQ]
theorem Qp6{r:BA}(h:r.size=0):tB r=[]:=by
 have:=Yo r;rw[h] at this;exact List.length_eq_zero_iff.1 this
theorem Hst.full{st blk:List Int}(hl:blk.length=64)(hu:t.length%64=u)(hx:u+x.length=64)
  (hst:st=stN rs iv t (t.length/64)) (hb:blk.take u=t.drop (64*(t.length/64))) (h:Hs w p (YS rs st (blkC blk x u)) (blkC blk x u) (t++x).length):Hst w p rs iv (t++x):=by
 have hd:=Qkj (t:=t) (x:=x) (by omega)
 have hk:=QcU (x:=x) hl (by omega) hu hb
 rw[hx,Lp (by rw[QbN hl (by omega)];exact La _)] at hk
 refine⟨_,_,h,?_,?_⟩
 ·rw[hd.1,stN,OU _ _ _ _ _ (by omega),<-hst,<-hk,Lp (by rw[QbN hl (by omega)];exact La _)]
 ·rw[hd.2,hd.1,IL,L3];simp only[List.length_append];omega
theorem Hst.part{st blk:List Int}(hl:blk.length=64)(hu:t.length%64=u)(hx:u+x.length<64)
  (hst:st=stN rs iv t (t.length/64)) (hb:blk.take u=t.drop (64*(t.length/64))) (h:Hs w p st (blkC blk x u) (t++x).length):Hst w p rs iv (t++x):=by
 have hd:=Qkk (t:=t) (x:=x) (by omega)
 have hk:=QcU (x:=x) hl (by omega) hu hb
 refine⟨_,_,h,?_,?_⟩
 ·rw[hd.1,OU _ _ _ _ _ (by omega),<-hst]
 ·rw[hd.2,hd.1,hu];exact hk
theorem Qbc(w:World)(p:Nat)(rs iv t:List Int)(s:BA)(hrl:rs.length=64)(hr:w.rangeAt 3 0 (cW rs))(hh:Hst w p rs iv t)(hlen:t.length+s.size<4611686018427387904) :
  Calls prog 361 #[Pq p,.string s] w fun e w'=>e= .returned (.tuple #[])∧Hst w' p rs iv (t++tB s)∧w.grownBy w' (some p):=by
 have hne1:3≠p:=by obtain⟨st,blk,h1,h2,h3⟩:=hh;exact h1.ne_rounds hrl hr
 have HI:Hid (Hst w p rs iv t):=hh;clear hh
 go_enter func361,ntmps361;go_wp2
 go_loopg [1] s.size (fun g v wr=> ∃(r:BA) (t':List Int),g=r.size∧v= .string r∧Hst wr p rs iv t'∧Hid (t'++tB r=t++tB s)∧w.grownBy wr (some p))
 case atStart=>go_light;exact⟨s,t,rfl,rfl,HI.out,rfl,World.grownBy.refl _ _⟩
 case round=>
  obtain⟨r,t',rfl,rfl,hh,HT,hg⟩:=hrel;have hlen2:t'.length+r.size=t.length+s.size:=by
   have:=Lv List.length HT.out
   simpa [Yo] using this
  by_cases hr0:0<r.size
  ·obtain⟨st,blk,h1,h2,h3⟩:=hh;obtain⟨n,hn⟩:=Ze t'.length;obtain⟨u,hu⟩:=Ze (n%64);obtain⟨m,hm⟩:∃m,u+m=64:=⟨64-u,by omega⟩
   obtain⟨c,hc⟩:=Ze (Nat.min r.size m);obtain⟨q,hq⟩:=Ze (8+u);have hcr:c<=r.size:=by rw[<-hc];exact IU _ _
   have hcm:c<=m:=by rw[<-hc];exact Wb _ _
   have hc0:0<c:=by rw[<-hc];exact Nat.lt_min.2 ⟨hr0,by omega⟩
   have hr0':(0:Int)<(r.size:Int):=by omega
   rw[hn] at h1;have c72:=h1.len;have hth:wr.there p q c:=fun j hj=>by
    have:=h1.there (q+j) (by omega)
    rwa [Ll] at this
   have hu64:Hid (n%64=u):=hu;have hsl:=fun w'=>QcA p 8 u m hm (by omega) w'
   rw[hq] at hsl;have hxl:((tB r).take c).length=c:=by rw[Lx,Yo];omega
   have hux:u+((tB r).take c).length<=64:=by omega
   have HK:Hid (∀w':World,w'.cell? ⟨p,72,none⟩=some (.int .u64 n)->(w'.setCells p q (cB ((tB r).take c))).cell? ⟨p,72,none⟩=some (.int .u64 n)):=fun w' h=>by
    rw[World.cell?_setCells_out p _ q w' ⟨p,72,none⟩ (fun _ _=>by right;show q+(cB ((tB r).take c)).length<=72;rw[QA,hxl];omega)]
    exact h
   have HW:Hid (Hs (wr.drew.setCells p q (cB ((tB r).take c))) p st (blkC blk ((tB r).take c) u) n):=by
    have:=h1.drew.copied u ((tB r).take c) hux
    rwa [hq] at this
   have HG:Hid (w.grownBy (wr.drew.setCells p q (cB ((tB r).take c))) (some p)):=JJ (Qb5 hg) _ _;have Hnum:Hid (t'.length=n∧n%64=u∧u+m=64∧Nat.min r.size m=c∧((tB r).take c).length=c):=⟨hn,hu,hm,hc,hxl⟩;have HL:Hid (blk.length=64):=h1.blkl;have Hst2:Hid (st=stN rs iv t' (t'.length/64)∧blk.take (t'.length%64)=t'.drop (64*(t'.length/64))):=⟨h2,h3⟩;have hm0:(0:Int)<=(c:Int):=Lh _;have hcr':(c:Int)<=(r.size:Int):=by omega
   clear h1 h2 h3 hn hu hg hq hxl hux
   go_upto_region 1 with (fail)
   go_cut [4] from 5 to 42 (fun q4 wc=>q4= .int .i64 c∧Hs wc p st (blkC blk ((tB r).take c) u) n∧w.grownBy wc (some p))
   case first=>
    go_region_held3 (fun w'=>w'.cell? ⟨p,72,none⟩=some (.int .u64 n)) (first|assumption|(rw[Nu];assumption)|(exact HK.out _ (by assumption))|(rw[Nu];exact HK.out _ (by assumption))|(refine HK.out _ ?_;rw[Nu];assumption)) (first|(go_at_call 403;refine(Oq n u hu64 _ p ?_).mono ?_;(first|assumption|(rw[Nu];assumption));rintro e w' ⟨rfl,rfl⟩)|(refine QcM rfl _ _ 127 9 rfl 5 underlying127 QoX p q m m c rfl r rfl hc ?_ ?_;(first|assumption|(rw[World.there_drew];assumption))))
    go_wp2
    go_meet
    case rel=>go_light;exact⟨rfl,HW.out,HG.out⟩
   case rest=>
    obtain⟨rfl,hs2,hg2⟩:=hcut;obtain⟨n',hn'⟩:∃n':Nat,n+c=n':=⟨_,rfl⟩;obtain⟨u',hu'⟩:∃u':Nat,n'%64=u':=⟨_,rfl⟩;have hcB:n+c<4611686018427387904:=by have:=Hnum.out.1;omega
    have en:(n:Int)+(c:Int)=(n':Int):=by omega
    have c72':=hs2.len;have f72:wc.frozen? ⟨p,72,none⟩=false:=by have:=(hs2.there 72 (by omega)).2;rwa [Ll] at this
    have hs3:=hs2.setLen n';have hg3:w.grownBy (wc.setCell ⟨p,72,none⟩ (.int .u64 n')) (some p):=Lib.grownBy_setB hg2 _ _;have b0:(0:Int)<=(n:Int):=Lh _;have b1:(n:Int)<4611686018427387904:=by omega
    have b2:(c:Int)<4611686018427387904:=by omega
    have Hn':Hid (n+c=n'):=hn';have Hu':Hid (n'%64=u'):=hu';clear hn' hu' hs2 hg2 hcB
    go_upto_region 4 with (fail)
    generalize wc.setCell ⟨p,72,none⟩ (.int .u64 n')=W3 at *;clear c72' f72;generalize hB:blkC blk ((tB r).take c) u=blk' at *;have HB:Hid (blkC blk ((tB r).take c) u=blk'):=hB;clear hB HW HG HK hsl hth c72;have hxs:(r.extract c r.size).size=r.size-c:=by simp
    by_cases h0:u'=0
    ·subst h0;obtain⟨s0,s1,s2,s3,s4,s5,s6,s7,rfl⟩:=Qcc hs3.stl;have c0:W3.cell? ⟨p,0,none⟩=some (.int .u32 s0):=Qd hs3.st (i:=0) (by simp)
     have c1:W3.cell? ⟨p,1,none⟩=some (.int .u32 s1):=Qd hs3.st (i:=1) (by simp)
     have c2:W3.cell? ⟨p,2,none⟩=some (.int .u32 s2):=Qd hs3.st (i:=2) (by simp)
     have c3:W3.cell? ⟨p,3,none⟩=some (.int .u32 s3):=Qd hs3.st (i:=3) (by simp)
     have c4:W3.cell? ⟨p,4,none⟩=some (.int .u32 s4):=Qd hs3.st (i:=4) (by simp)
     have c5:W3.cell? ⟨p,5,none⟩=some (.int .u32 s5):=Qd hs3.st (i:=5) (by simp)
     have c6:W3.cell? ⟨p,6,none⟩=some (.int .u32 s6):=Qd hs3.st (i:=6) (by simp)
     have c7:W3.cell? ⟨p,7,none⟩=some (.int .u32 s7):=Qd hs3.st (i:=7) (by simp)
     have hbl:=hs3.blkl;have hbr:=hs3.blk;have hi:(prog.info? 184).map (·.size)=some (cB blk').length:=by rw[QA,hbl];exact Qa7
     have hu35:=underlying184;have hl':(cB blk').length=64:=by rw[QA,hbl]
     have hr3:W3.rangeAt 3 0 (cW rs):=Qfw hg3 hne1 hr;have hr3d:W3.drew.rangeAt 3 0 (cW rs):=by rw[World.rangeAt_drew];exact hr3
     have hfo:=fun w'=>OM [s0,s1,s2,s3,s4,s5,s6,s7] rfl blk' hbl w' rs hrl
     generalize hF:YS rs [s0,s1,s2,s3,s4,s5,s6,s7] blk'=F at hfo;have hFl:F.length=8:=by rw[<-hF];rfl
     have hszF:(cW F).toArray.size=8:=by simp[Qm,hFl]
     have hiF:(prog.info? 346).map (·.size)=some (cW F).toArray.size:=by rw[hszF];exact UF
     have HF:Hid (YS rs [s0,s1,s2,s3,s4,s5,s6,s7] blk'=F):=hF;clear hF;have c72':=hs3.len;have hplt:=hs3.lt;have ht8:W3.there p 0 8:=fun j hj=>hs3.there j (by omega)
     have hst34:∀w':World,w'.there p 0 8->(storeCells ⟨p,0,none⟩ (cW F)).run prog w'= .ok () (w'.setCells p 0 (cW F)):=fun w' h=>by
      have hl8:(cW F).length=8:=by rw[Qm,hFl]
      have:=run_storeCells_cells (P:=prog) p 0 (cW F) 0 w' (by rw[hl8];intro j hj;simpa using (h j hj).1) (by rw[hl8];intro j hj;simpa using (h j hj).2) (Uz F)
      simpa using this
     have HS3:Hid (Hs W3 p [s0,s1,s2,s3,s4,s5,s6,s7] blk' n'):=hs3;clear hs3;have HK:Hid (∀w':World,Below W3.drew.heap.size W3.drew w'->w'.rangeAt p 8 (cB blk')∧w'.there p 0 8):=fun w' h=>⟨Qn h hplt (by rw[World.rangeAt_drew];exact hbr),QX h hplt (by rw[World.there_drew];exact ht8)⟩
     have hst3:W3.drew.rangeAt p 0 (cW [s0,s1,s2,s3,s4,s5,s6,s7]):=by rw[World.rangeAt_drew];exact HS3.out.st
     have hi34:(prog.info? 346).map (·.size)=some (cW [s0,s1,s2,s3,s4,s5,s6,s7]).length:=UF;have hS0:W3.drew.rangeAt p 8 (cB blk')∧W3.drew.there p 0 8:=⟨by rw[World.rangeAt_drew];exact hbr,by rw[World.there_drew];exact ht8⟩
     have HX:Hid (∀w',Below W3.drew.heap.size W3.drew w'->Hs (w'.setCells p 0 (cW F)) p F blk' n'∧w.grownBy (w'.setCells p 0 (cW F)) (some p)):=fun w' hb=>
      ⟨(HS3.out.drew.later hb hplt).setState F hFl,JJ (Qe5 (Qb5 hg3) hb) _ _⟩
     clear c0 c1 c2 c3 c4 c5 c6 c7 hg3 hst34
     go_wp2_with (go_at_call 403;refine(Oq n' 0 Hu' _ p c72').mono ?_;rintro e w' ⟨rfl,rfl⟩)
     refine wp_region_noPanic ?_
     refine wp_region_held_drew (S:=fun w'=>w'.rangeAt p 8 (cB blk')∧w'.there p 0 8) (by kernel_rfl) hS0 (fun hHeld=> ?_)
     refine wpAnyH_take (i:=0) (oi := { dst:=some 31,op:=Op.move (Operand.tmp 0),type:=401,pos := "sha.go:45",after:=#[],guard:=none }) (v:=Pq p) rfl (by kernel_rfl) (by kernel_rfl) (by kernel_rfl) (fun _ _ _ h=>h) (Or.inl ⟨by rfl,fun w hSw=> ?_⟩) (by assumption) ?_
     ·go_simp
     simp only[Act.put,List.setIfInBounds_toArray,List.set_cons_zero,List.set_cons_succ];refine wpAnyH_take (i:=1) (oi := { dst:=some 32,op:=Op.move (Operand.tmp 0),type:=401,pos := "sha.go:45",after:=#[],guard:=none }) (v:=Pq p) rfl (by kernel_rfl) (by kernel_rfl) (by kernel_rfl) (fun _ _ _ h=>h) (Or.inl ⟨by rfl,fun w hSw=> ?_⟩) (by assumption) ?_
     ·go_simp
     simp only[Act.put,List.setIfInBounds_toArray,List.set_cons_zero,List.set_cons_succ];refine wpAnyH_take (i:=2) (oi := { dst:=some 33,op:=Op.nilCheck (Operand.tmp 32),type:=0,pos := "sha.go:45",after:=#[{ on:=1,ground:=Ground.data }],guard:=none }) (v:=Pq p) rfl (by kernel_rfl) (by kernel_rfl) (by kernel_rfl) (fun _ _ _ h=>h) (Or.inl ⟨by rfl,fun w hSw=> ?_⟩) (by assumption) ?_
     ·go_simp
     simp only[Act.put,List.setIfInBounds_toArray,List.set_cons_zero,List.set_cons_succ];refine wpAnyH_take (i:=3) (oi := { dst:=some 34,op:=Op.fieldAddr 428 (Operand.tmp 33) 0,type:=0,pos := "sha.go:45",after:=#[{ on:=2,ground:=Ground.data }],guard:=none }) (v:=Pq p) rfl (by kernel_rfl) (by kernel_rfl) (by kernel_rfl) (fun _ _ _ h=>h) (Or.inl ⟨by rfl,fun w hSw=> ?_⟩) (by assumption) ?_
     ·go_simp
     simp only[Act.put,List.setIfInBounds_toArray,List.set_cons_zero,List.set_cons_succ];refine wpAnyH_take (i:=5) (oi := { dst:=some 36,op:=Op.move (Operand.tmp 0),type:=401,pos := "sha.go:45",after:=#[],guard:=none }) (v:=Pq p) rfl (by kernel_rfl) (by kernel_rfl) (by kernel_rfl) (fun _ _ _ h=>h) (Or.inl ⟨by rfl,fun w hSw=> ?_⟩) (by assumption) ?_
     ·go_simp
     simp only[Act.put,List.setIfInBounds_toArray,List.set_cons_zero,List.set_cons_succ];refine wpAnyH_take (i:=6) (oi := { dst:=some 37,op:=Op.nilCheck (Operand.tmp 36),type:=0,pos := "sha.go:45",after:=#[{ on:=5,ground:=Ground.data }],guard:=none }) (v:=Pq p) rfl (by kernel_rfl) (by kernel_rfl) (by kernel_rfl) (fun _ _ _ h=>h) (Or.inl ⟨by rfl,fun w hSw=> ?_⟩) (by assumption) ?_
     ·go_simp
     simp only[Act.put,List.setIfInBounds_toArray,List.set_cons_zero,List.set_cons_succ];refine wpAnyH_take (i:=7) (oi := { dst:=some 38,op:=Op.fieldAddr 428 (Operand.tmp 37) 1,type:=0,pos := "sha.go:45",after:=#[{ on:=6,ground:=Ground.data }],guard:=none }) (v := .pointer (some ⟨p,8,none⟩)) rfl (by kernel_rfl) (by kernel_rfl) (by kernel_rfl) (fun _ _ _ h=>h) (Or.inl ⟨by rfl,fun w hSw=> ?_⟩) (by assumption) ?_
     ·go_simp
     simp only[Act.put,List.setIfInBounds_toArray,List.set_cons_zero,List.set_cons_succ];refine wpAnyH_take (i:=8) (oi := { dst:=some 39,op:=Op.load 184 (Operand.tmp 38),type:=184,pos := "sha.go:45",after:=#[{ on:=7,ground:=Ground.data }],guard:=none }) (v := .agg (cB blk').toArray) rfl (by kernel_rfl) (by kernel_rfl) (by kernel_rfl) (fun _ _ _ h=>h) (yieldsIf_load_mid (by rfl) 184 _ rfl p 8 rfl (cB blk') _ (fun w hw=>hw.1) underlying184 rfl hi) (by assumption) ?_
     simp only[Act.put,List.setIfInBounds_toArray,List.set_cons_zero,List.set_cons_succ];refine wpAnyH_ready (rs:=[4]) (by kernel_rfl) (by simp) ?_
     refine AllReadyH.cons (o := { dst:=some 35,op:=Op.load 346 (Operand.tmp 34),type:=346,pos := "sha.go:45",after:=#[{ on:=3,ground:=Ground.data }],guard:=none }) rfl (fun K hK=> ?_) AllReadyH.nil
     rw[Lf (by rfl)]
     refine wp_load_mid 346 _ rfl p 0 rfl (cW [s0,s1,s2,s3,s4,s5,s6,s7]) _ hst3 underlying346 rfl hi34 ?_
     refine hK.out _ _ hHeld (fun hHeld=> ?_)
     clear hK K;simp only[Act.put,List.setIfInBounds_toArray,List.set_cons_zero,List.set_cons_succ];refine wpAnyH_ready (rs:=[9]) (by kernel_rfl) (by simp) ?_
     refine AllReadyH.cons (o := { dst:=some 40,op:=Op.call { callee:=Callee.value (Operand.func 404),args:=#[Operand.tmp 35,Operand.tmp 39],argTypes:=#[346,184] },type:=346,pos := "sha.go:45",after:=#[{ on:=4,ground:=Ground.data },{ on:=8,ground:=Ground.data }],guard:=none }) rfl (fun K hK=> ?_) AllReadyH.nil
     go_simp
     refine(hfo _ hr3d).mono ?_
     rintro e w4 ⟨rfl,hbw⟩;have hth4:=(HK.out _ hbw).2;refine hK.out _ _ (HK.out _ hbw) (fun hHeld=> ?_)
     clear hK K;refine wpAnyH_take (i:=10) (oi := { dst:=some 41,op:=Op.nilCheck (Operand.tmp 31),type:=0,pos := "sha.go:45",after:=#[{ on:=0,ground:=Ground.data },{ on:=0,ground:=Ground.phase },{ on:=1,ground:=Ground.phase },{ on:=2,ground:=Ground.phase },{ on:=3,ground:=Ground.phase },{ on:=4,ground:=Ground.phase },{ on:=5,ground:=Ground.phase },{ on:=6,ground:=Ground.phase },{ on:=7,ground:=Ground.phase },{ on:=8,ground:=Ground.phase },{ on:=9,ground:=Ground.phase }],guard:=none }) (v:=Pq p) rfl (by kernel_rfl) (by kernel_rfl) (by kernel_rfl) (fun _ _ _ h=>h) (Or.inl ⟨by rfl,fun w hSw=> ?_⟩) (by assumption) ?_
     ·go_simp
     simp only[Act.put,List.setIfInBounds_toArray,List.set_cons_zero,List.set_cons_succ];refine wpAnyH_take (i:=11) (oi := { dst:=some 42,op:=Op.fieldAddr 428 (Operand.tmp 41) 0,type:=0,pos := "sha.go:45",after:=#[{ on:=10,ground:=Ground.data },{ on:=0,ground:=Ground.phase },{ on:=1,ground:=Ground.phase },{ on:=2,ground:=Ground.phase },{ on:=3,ground:=Ground.phase },{ on:=4,ground:=Ground.phase },{ on:=5,ground:=Ground.phase },{ on:=6,ground:=Ground.phase },{ on:=7,ground:=Ground.phase },{ on:=8,ground:=Ground.phase },{ on:=9,ground:=Ground.phase }],guard:=none }) (v:=Pq p) rfl (by kernel_rfl) (by kernel_rfl) (by kernel_rfl) (fun _ _ _ h=>h) (Or.inl ⟨by rfl,fun w hSw=> ?_⟩) (by assumption) ?_
     ·go_simp
     simp only[Act.put,List.setIfInBounds_toArray,List.set_cons_zero,List.set_cons_succ];refine wpAnyH_ready (rs:=[12]) (by kernel_rfl) (by simp) ?_
     refine AllReadyH.cons (o := { dst:=none,op:=Op.store 346 (Operand.tmp 42) (Operand.tmp 40),type:=0,pos := "sha.go:45",after:=#[{ on:=11,ground:=Ground.data },{ on:=9,ground:=Ground.data },{ on:=9,ground:=Ground.chain },{ on:=0,ground:=Ground.phase },{ on:=1,ground:=Ground.phase },{ on:=2,ground:=Ground.phase },{ on:=3,ground:=Ground.phase },{ on:=4,ground:=Ground.phase },{ on:=5,ground:=Ground.phase },{ on:=6,ground:=Ground.phase },{ on:=7,ground:=Ground.phase },{ on:=8,ground:=Ground.phase },{ on:=9,ground:=Ground.phase }],guard:=none }) rfl (fun K hK=> ?_) AllReadyH.nil
     rw[Lf (by rfl)]
     refine wp_store_mid 346 _ _ rfl p 0 (cW F).toArray rfl rfl (by rw[hszF];exact hth4) hiF (all_oneCell_toArray (Uz F)) ?_
     refine hK.out _ _ ⟨World.rangeAt_setCells_apart hHeld.1 _ _ _ (by right;right;rw[List.toList_toArray,Qm,hFl];omega),World.there_setCells hth4 _ _ _⟩ (fun hHeld=> ?_)
     clear hK K;simp only[Act.put];refine wpAnyH_done (by kernel_rfl) ?_ _
     refine NoPanic.normal ?_
     go_wp2
     go_roundg (r.extract c r.size).size
     case rel=>
      go_light;obtain⟨hn,hu,hm,hc,hxl⟩:=Hnum.out;obtain⟨hH,hG⟩:=HX.out _ hbw;have hn':=Hn'.out;have hu':=Hu'.out;obtain⟨hst,hbk⟩:=Hst2.out;have hf:=HF.out;have hb':=HB.out;rw[hn,hu,<-hn] at hbk;refine⟨_,t'++(tB r).take c,rfl,rfl,Hst.full HL.out (by omega) (by omega) hst hbk ?_,?_,hG⟩
      ·rw[Lc,hxl,hn,hn',hb',hf];exact hH
      ·rw[QcB,Lw,Nv];exact HT
     case measure=>go_light;rw[hxs];omega
    ·have h0':((u':Int) == 0)=false:=by rw[beq_eq_false_iff_ne];omega
     have c72':=hs3.len;have HS3:Hid (Hs W3 p st blk' n'):=hs3;have HG3:Hid (w.grownBy W3 (some p)):=hg3;clear hs3 hg3
     go_wp2_with (go_at_call 403;refine(Oq n' u' Hu' _ p c72').mono ?_;rintro e w' ⟨rfl,rfl⟩)
     go_roundg (r.extract c r.size).size
     case rel=>
      go_light;obtain⟨hn,hu,hm,hc,hxl⟩:=Hnum.out;have hn':=Hn'.out;have hu':=Hu'.out;obtain⟨hst,hbk⟩:=Hst2.out;have hb':=HB.out;rw[hn,hu,<-hn] at hbk;refine⟨_,t'++(tB r).take c,rfl,rfl,Hst.part HL.out (by omega) (by omega) hst hbk ?_,?_,HG3.out⟩
      ·rw[Lc,hxl,hn,hn',hb'];exact HS3.out
      ·rw[QcB,Lw,Nv];exact HT
     case measure=>go_light;rw[hxs];omega
  ·have hr1:r.size=0:=by omega
   have hr0':¬((0:Int)<(r.size:Int)):=by omega
   have HR:Hid (Hst wr p rs iv (t++tB s)):=by
    have:=HT.out;rw[Qp6 hr1,LU] at this;rw[<-this];exact hh
   clear hh;go_wp2
   go_end0
   exact⟨rfl,HR.out,hg⟩
def IV:List Int:=[1779033703,3144134277,1013904242,2773480762,1359893119,2600822924,528734635,1541459225]
theorem Qd4(w:World) :
  Calls prog 360 #[] w fun e w'=>e= .returned (Pq w.heap.size)∧w'=w.alloc (.cells ((cW IV++cB (List.replicate 64 0))++[Value.int .u64 0]).toArray 428):=by
 have hz:∀w':World,(zeroValue 428).run prog w'= .ok (.agg #[.int .u32 0,.int .u32 0,.int .u32 0,.int .u32 0,.int .u32 0,.int .u32 0,.int .u32 0,.int .u32 0,.int .u8 0,.int .u8 0,.int .u8 0,.int .u8 0,.int .u8 0,.int .u8 0,.int .u8 0,.int .u8 0,.int .u8 0,.int .u8 0,.int .u8 0,.int .u8 0,.int .u8 0,.int .u8 0,.int .u8 0,.int .u8 0,.int .u8 0,.int .u8 0,.int .u8 0,.int .u8 0,.int .u8 0,.int .u8 0,.int .u8 0,.int .u8 0,.int .u8 0,.int .u8 0,.int .u8 0,.int .u8 0,.int .u8 0,.int .u8 0,.int .u8 0,.int .u8 0,.int .u8 0,.int .u8 0,.int .u8 0,.int .u8 0,.int .u8 0,.int .u8 0,.int .u8 0,.int .u8 0,.int .u8 0,.int .u8 0,.int .u8 0,.int .u8 0,.int .u8 0,.int .u8 0,.int .u8 0,.int .u8 0,.int .u8 0,.int .u8 0,.int .u8 0,.int .u8 0,.int .u8 0,.int .u8 0,.int .u8 0,.int .u8 0,.int .u8 0,.int .u8 0,.int .u8 0,.int .u8 0,.int .u8 0,.int .u8 0,.int .u8 0,.int .u8 0,.int .u64 0]) w':=fun w'=>by kernel_rfl
 go_enter func360,ntmps360;go_wp2
 go_ret
 exact⟨rfl,rfl⟩
theorem Qqv(H:List Int)(hl:H.length=8)(k:Nat)(hk:k<8)(w:World):(Instr.index 346 (.agg (cW H).toArray) (.int .i64 k)).run prog w= .ok (.int .u32 (H.getD k 0)) w:=by
 obtain⟨s0,s1,s2,s3,s4,s5,s6,s7,rfl⟩:=Qcc hl;obtain rfl|rfl|rfl|rfl|rfl|rfl|rfl|rfl:k=0∨k=1∨k=2∨k=3∨k=4∨k=5∨k=6∨k=7:=by omega
 all_goals kernel_rfl
def w4(x:Int):List Int:=[IntKind.u8.wrap (x/16777216),IntKind.u8.wrap (x/65536),IntKind.u8.wrap (x/256),IntKind.u8.wrap x]
def Jd(H:List Int):Nat->List Int
 | 0=>[]
 | k+1=>Jd H k++w4 (H.getD k 0)
def Jg(l:List Int):List Int:=l++List.replicate (32-l.length) 0
theorem Qcl(H:List Int)(k:Nat):(Jd H k).length=4*k:=by
 induction k with
 | zero=>rfl
 | succ k ih=>simp only[Jd,List.length_append,ih,w4,List.length_cons,List.length_nil];omega
theorem Qi2(h:l.length<=32):(Jg l).length=32:=by simp[Jg];omega
theorem QgK(h:l.length=32):Jg l=l:=by simp[Jg,h]
theorem Qi3(h:l.length<32)(v:Int):(Jg l).set l.length v=Jg (l++[v]):=by
 unfold Jg;rw[Nb _ _ (La _)];obtain⟨n,hn⟩:∃n,32-l.length=n+1:=⟨32-l.length-1,by omega⟩
 have xA:32-(l++[v]).length=n:=by simp;omega
 rw[hn,xA,IW];simp
structure Su(w wr:World)(l:List Int):Prop where
 below:Bl w wr
 out:wr.rangeAt w.heap.size 0 (cB (Jg l))
 outt:wr.there w.heap.size 0 32
theorem Su.step{wr:World}(h:Su w wr l){m:Nat}(hm:l.length=m)(hl:m<32)(v:Int):Su w (wr.setCell ⟨w.heap.size,m,none⟩ (.int .u8 v)) (l++[v]):=by
 subst hm;refine⟨h.below.setCell (La _) _,?_,QJ h.outt _ _⟩
 have:=YH h.out l.length (.int .u8 v)
 rwa [Ll,Qgb,Qi3 hl] at this
def QY(l:List Int):BA:=l.foldl (fun r n=>r.push (UInt8.ofNat n.toNat)) ByteArray.empty
theorem QbS(w:World)(b:Nat)(l:List Int)(n:Nat)(hl:l.length=n)(h:w.rangeAt b 0 (cB l)):(convert 127 9 (.slice (Zp b) n n)).run prog w= .ok (.string (QY l)) w:=by
 subst hl;rw[run_convert_bytes_string w 127 9 5 _ _ _ underlying127 underlying5 underlying9];refine run_bytesToString w ⟨b,0,none⟩ l.length l.length l ?_
 have:=run_loadCells_list (P:=prog) w ⟨b,0,none⟩ (cB l) (fun j v hv=>by rw[Addr.add_mid];exact h j v hv)
 rwa [QA] at this
theorem QaY{u:Value}(h:w.cell? ⟨b,i,none⟩=some u)(hne:i≠j):(w.setCell ⟨b,j,none⟩ v).cell? ⟨b,i,none⟩=some u:=by
 rw[Lt _ _ _ _ (fun e=>hne (by have:=Lv Addr.off e;simpa using this.symm))];exact h
theorem Qor(w:World)(p:Nat)(st blk:List Int)(n:Nat)(hh:Hs w p st blk n)(rs:List Int)(hrl:rs.length=64)(hr:w.rangeAt 3 0 (cW rs)) :
  Zr 362 #[Pq p] w (.string (QY (Jd (Q2 rs st blk n) 8))):=by
 obtain⟨H,hH⟩:∃H,H=Q2 rs st blk n:=⟨_,rfl⟩;have xF:H.length=8:=by rw[hH];exact QbQ _ _ _ _
 have xC:=fun(w':World) (h:Hs w' p st blk n) (h2:w'.rangeAt 3 0 (cW rs))=>closed_any w' p st blk n h rs hrl h2
 rw[<-hH] at xC;have HE:Hid (H=Q2 rs st blk n):=hH;clear hH;have xD:p<w.heap.size:=hh.lt;have xO:3<w.heap.size:=QF hr (by intro h;have:=Lv List.length h;simp[Qm,hrl] at this)
 have hA:∀o,Hs (w.alloc o) p st blk n:=fun o=>hh.later ((Lb w.heap.size w).alloc (La _) o) xD
 have hR:∀o,(w.alloc o).rangeAt 3 0 (cW rs):=fun o=>World.rangeAt_alloc hr o
 go_enter func362,ntmps362
 go_wp2_with (go_at_call 405;refine(xC _ (hA _) (hR _)).mono ?_;rintro e w' ⟨rfl,xB⟩)
 have hS:Su w w' []:=by
  have q:=Ql w (cB (List.replicate 32 0)).toArray 430 32 (by simp[QA])
  have r:=Qv w (cB (List.replicate 32 0)) 430;exact⟨((Lb _ _).alloc (La _) _).trans (xB.mono (by simp)),Qn xB (by simp) r,QX xB (by simp) q⟩
 clear xB xC hA hR
 go_loopg [8] 8 (fun g i wr=> ∃k:Nat,k<=8∧g=8-k∧i= .int .i64 k∧Su w wr (Jd H k))
 case atStart=>go_light;exact⟨0,Ln _,rfl,rfl,hS⟩
 case round=>
  clear hS;obtain⟨k,hk,rfl,rfl,hs⟩:=hrel
  by_cases xD:k<8
  ·have xQ:(0:Int)<=(k:Int):=Lh _;have xR:(k:Int)<8:=by omega
   have xG:=fun w'=>Qqv H xF k xD w'
   obtain⟨m,hm⟩:∃m:Nat,4*k=m:=⟨_,rfl⟩;obtain⟨m1,xH⟩:∃m1:Nat,m+1=m1:=⟨_,rfl⟩;obtain⟨m2,xI⟩:∃m2:Nat,m+2=m2:=⟨_,rfl⟩;obtain⟨m3,xJ⟩:∃m3:Nat,m+3=m3:=⟨_,rfl⟩;have e0:4*(k:Int)=(m:Int):=by omega
   have e1:(m:Int)+1=(m1:Int):=by omega
   have e2:(m:Int)+2=(m2:Int):=by omega
   have e3:(m:Int)+3=(m3:Int):=by omega
   have b0:(0:Int)<=(m:Int):=Lh _;have b1:(0:Int)<=(m1:Int):=Lh _;have b2:(0:Int)<=(m2:Int):=Lh _;have b3:(0:Int)<=(m3:Int):=Lh _;have d0:(m:Int)<32:=by omega
   have d1:(m1:Int)<32:=by omega
   have d2:(m2:Int)<32:=by omega
   have d3:(m3:Int)<32:=by omega
   have xA:=Qcl H k;have xK:(Jg (Jd H k)).length=32:=Qi2 (by omega)
   have c0:=Yk hs.out (i:=m) (by omega)
   have c1:=Yk hs.out (i:=m1) (by omega)
   have c2:=Yk hs.out (i:=m2) (by omega)
   have c3:=Yk hs.out (i:=m3) (by omega)
   have f0:wr.frozen? ⟨w.heap.size,m,none⟩=false:=by have:=(hs.outt m (by omega)).2;rwa [Ll] at this
   have f1:wr.frozen? ⟨w.heap.size,m1,none⟩=false:=by have:=(hs.outt m1 (by omega)).2;rwa [Ll] at this
   have f2:wr.frozen? ⟨w.heap.size,m2,none⟩=false:=by have:=(hs.outt m2 (by omega)).2;rwa [Ll] at this
   have f3:wr.frozen? ⟨w.heap.size,m3,none⟩=false:=by have:=(hs.outt m3 (by omega)).2;rwa [Ll] at this
   have xL:=fun v=>QaY (v:=v) c1 (show m1≠m by omega)
   have xM:=fun v v'=>QaY (v:=v') (QaY (v:=v) c2 (show m2≠m by omega)) (show m2≠m1 by omega)
   have xN:=fun v v' v''=>QaY (v:=v'') (QaY (v:=v') (QaY (v:=v) c3 (show m3≠m by omega)) (show m3≠m1 by omega)) (show m3≠m2 by omega)
   have HF:Hid (∀x0 x1 x2 x3,Su w ((((wr.setCell ⟨w.heap.size,m,none⟩ (.int .u8 x0)).setCell ⟨w.heap.size,m1,none⟩ (.int .u8 x1)).setCell ⟨w.heap.size,m2,none⟩ (.int .u8 x2)).setCell ⟨w.heap.size,m3,none⟩ (.int .u8 x3)) (Jd H k++[x0,x1,x2,x3])):=fun x0 x1 x2 x3=>by
    have:=(((hs.step (m:=m) (by omega) (by omega) x0).step (m:=m1) (by simp;omega) (by omega) x1).step (m:=m2) (by simp;omega) (by omega) x2).step (m:=m3) (by simp;omega) (by omega) x3
    simpa using this
   clear hs hm xH xI xJ c1 c2 c3 xA xK;generalize (Jg (Jd H k)).getD m 0=z0 at *;generalize (Jg (Jd H k)).getD m1 0=z1 at *;generalize (Jg (Jd H k)).getD m2 0=z2 at *;generalize (Jg (Jd H k)).getD m3 0=z3 at *;generalize hx:H.getD k 0=x at *;have HX:Hid (H.getD k 0=x):=hx;clear hx;go_wp2
   go_roundg (8-(k+1))
   case rel=>
    go_light;refine⟨k+1,by omega,rfl,by go_num,?_⟩
    rw[Jd,HX.out];exact HF.out _ _ _ _
   case measure=>go_light;omega
  ·obtain rfl:k=8:=by omega
   have xA:=Qcl H 8;have xE:=hs.out;rw[QgK xA] at xE;have xP:=QbS wr w.heap.size (Jd H 8) 32 xA xE;have HB:Hid (Bl w wr):=hs.below;have HO:Hid (Jd H 8=Jd (Q2 rs st blk n) 8):=by rw[HE.out];exact rfl
   clear hs xE xA;generalize Jd H 8=l at *;go_wp2
   go_ret
   exact⟨by rw[<-HO.out];rfl,HB.out⟩
end Go.Proofs.YtoblgjledefdbaaGreatDoor
