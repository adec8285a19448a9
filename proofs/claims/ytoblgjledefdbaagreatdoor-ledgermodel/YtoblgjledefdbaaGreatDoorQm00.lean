/- Own work. -/
import Derived.Test.YtoblgjledefdbaaGreatDoorQmA
import Derived.WalkSpells
import Derived.Deep.RegionHeld3
import Derived.Deep.DrawnRows
import Derived.Deep.Light
set_option maxRecDepth 100000
set_option maxHeartbeats 2000000
namespace Go.Proofs.YtoblgjledefdbaaGreatDoor
open Go.RowKit
attribute [local go_sem ↓] Go.wp_at_zero Go.wp_at_succ
open Go.Proofs.Tryz
def Us(x n:Int):Int:=bits .or .u32 (x / 2^n.toNat) (IntKind.u32.wrap (x*2^(32 - n).toNat))
def cB(l:List Int):List Value:=l.map (Value.int .u8)
def cW(l:List Int):List Value:=l.map (Value.int .u32)
def pad(l:List Int):List Int:=l++List.replicate (64 - l.length) 0
def Qfr(a b c d:Int):Int :=
 bits .or .u32 (bits .or .u32 (bits .or .u32 (IntKind.u32.wrap (IntKind.u32.wrap a*16777216)) (IntKind.u32.wrap (IntKind.u32.wrap b*65536))) (IntKind.u32.wrap (IntKind.u32.wrap c*256))) (IntKind.u32.wrap d)
def sch0(blk:List Int):Nat->List Int
 | 0=>[]
 | k+1=>sch0 blk k++[Qfr (blk.getD (4*k) 0) (blk.getD (4*k+1) 0) (blk.getD (4*k+2) 0) (blk.getD (4*k+3) 0)]
def Qg9(a x c y:Int):Int :=
 IntKind.u32.wrap (IntKind.u32.wrap (IntKind.u32.wrap (a+bits .xor .u32 (bits .xor .u32 (Us x 7) (Us x 18)) (x / 8))+c)+bits .xor .u32 (bits .xor .u32 (Us y 17) (Us y 19)) (y / 1024))
def Q2(blk:List Int):Nat->List Int
 | 0=>sch0 blk 16
 | k+1=>Q2 blk k++[Qg9 ((Q2 blk k).getD k 0) ((Q2 blk k).getD (k+1) 0) ((Q2 blk k).getD (k+9) 0) ((Q2 blk k).getD (k+14) 0)]
theorem O5(blk:List Int)(k:Nat):(sch0 blk k).length=k:=by
 induction k with
 | zero=>rfl
 | succ k ih=>simp[sch0,ih]
theorem O6(blk:List Int)(k:Nat):(Q2 blk k).length=16+k:=by
 induction k with
 | zero=>exact O5 _ _
 | succ k ih=>simp only[Q2,List.length_append,ih,List.length_cons,List.length_nil];omega
theorem Um{l:List Int}(h:l.length<=64):(pad l).length=64:=by simp[pad];omega
theorem QeP{l:List Int}(h:l.length=64):pad l=l:=by simp[pad,h]
theorem Q8(l:List Int)(i:Nat):(pad l).getD i 0=l.getD i 0:=by
 unfold pad;simp only[List.getD_eq_getElem?_getD]
 by_cases h:i<l.length
 ·rw[Ly h]
 ·rw[LK (by omega),Nu (l:=l) (by omega),I6]
  split <;> rfl
theorem QaZ{l:List Int}(h:l.length<64)(v:Int):(pad l).set l.length v=pad (l++[v]):=by
 unfold pad;rw[L4 _ _ (La _)];obtain⟨n,hn⟩ : ∃n,64 - l.length=n+1:=⟨64 - l.length - 1,by omega⟩
 have xA:64 - (l++[v]).length=n:=by simp;omega
 rw[hn,xA,IR];simp
theorem QgM{w:World}{b o:Nat}{l:List Int}(h:w.rangeAt b o (cB l)){i:Nat}(hi:i<l.length):w.cell? ⟨b,o+i,none⟩=some (.int .u8 (l.getD i 0)) :=
 h i _ (by simp[cB,List.getElem?_eq_getElem hi,List.getD_eq_getElem?_getD])
theorem QlI{w:World}{b o:Nat}{l:List Int}(h:w.rangeAt b o (cW l)){i:Nat}(hi:i<l.length):w.cell? ⟨b,o+i,none⟩=some (.int .u32 (l.getD i 0)) :=
 h i _ (by simp[cW,List.getElem?_eq_getElem hi,List.getD_eq_getElem?_getD])
theorem Yg{w:World}{b:Nat}{l:List Int}(h:w.rangeAt b 0 (cB l)){i:Nat}(hi:i<l.length):w.cell? ⟨b,i,none⟩=some (.int .u8 (l.getD i 0)):=by
 have:=QgM h hi;rwa [Lm] at this
theorem Qc{w:World}{b:Nat}{l:List Int}(h:w.rangeAt b 0 (cW l)){i:Nat}(hi:i<l.length):w.cell? ⟨b,i,none⟩=some (.int .u32 (l.getD i 0)):=by
 have:=QlI h hi;rwa [Lm] at this
theorem Qo(l:List Int):(cW l).length=l.length:=by simp[cW]
theorem QA(l:List Int):(cB l).length=l.length:=by simp[cB]
theorem Up(l:List Int) : ∀v∈cW l,v.oneCell'=true:=by
 intro v hv;obtain⟨x,_,rfl⟩:=List.mem_map.1 hv;rfl
theorem Qbb(l:List Int) : ∀v∈cB l,v.oneCell'=true:=by
 intro v hv;obtain⟨x,_,rfl⟩:=List.mem_map.1 hv;rfl
theorem QfC(l:List Int)(i:Nat)(v:Int):(cW l).set i (.int .u32 v)=cW (l.set i v):=by simp[cW,List.map_set]
theorem QfB(l:List Int)(i:Nat)(v:Int):(cB l).set i (.int .u8 v)=cB (l.set i v):=by simp[cB,List.map_set]
theorem Qib{w:World}{a b:Addr}{v u:Value}(h:w.cell? b=some u)(hne:a.block≠b.block):(w.setCell a v).drew.cell? b=some u:=by
 rw[No,LO _ _ _ _ (fun e=>hne (by rw[e]))];exact h
theorem YG{w:World}{b o:Nat}{cs:List Value}(h:w.rangeAt b o cs)(i:Nat)(v:Value):(w.setCell ⟨b,o+i,none⟩ v).rangeAt b o (cs.set i v):=fun j u hu=>by
 by_cases e:i=j
 ·subst e;rw[List.getElem?_set_self'] at hu
  cases hc:cs[i]? with
  | none=>simp[hc] at hu
  | some c =>
   simp[hc] at hu;subst hu;exact Na _ _ _ (h i c hc)
 ·rw[If e] at hu;rw[LO _ _ _ _ (fun e'=>e (by have:=Lw Addr.off e';simp at this;omega))]
  exact h j u hu
theorem Ua{w:World}{b o:Nat}{cs:List Value}(h:w.rangeAt b o cs){a:Addr}(ha:a.block≠b)(v:Value):(w.setCell a v).rangeAt b o cs:=fun j u hu=>by
 rw[LO _ _ _ _ (fun e=>ha (by rw[e]))];exact h j u hu
theorem QK{w:World}{b o n:Nat}(h:w.there b o n)(a:Addr)(v:Value):(w.setCell a v).there b o n:=fun j hj=>by
 obtain⟨h1,h2⟩:=h j hj;refine⟨?_,by rw[World.frozen?_setCell];exact h2⟩
 obtain⟨u,hu⟩:=Option.isSome_iff_exists.1 h1
 by_cases e:a=⟨b,o+j,none⟩
 ·subst e;rw[Na _ _ _ hu];rfl
 ·rw[LO _ _ _ _ e,hu];rfl
theorem Qn{w w':World}{B b o:Nat}{cs:List Value}(hb:Below B w w')(hlt:b<B)(h:w.rangeAt b o cs):w'.rangeAt b o cs:=fun j u hu=>by
 rw[hb.cell (p:=⟨b,o+j,none⟩) hlt];exact h j u hu
theorem QT{w w':World}{B b o n:Nat}(hb:Below B w w')(hlt:b<B)(h:w.there b o n):w'.there b o n:=fun j hj=>by
 rw[hb.cell (p:=⟨b,o+j,none⟩) hlt,hb.frozen (p:=⟨b,o+j,none⟩) hlt];exact h j hj
theorem Qq(w:World)(cs:List Value)(t:TypeId):(w.alloc (.cells cs.toArray t)).rangeAt w.heap.size 0 cs:=fun j u hu=>by
 rw[LX,Lm];simpa using hu
theorem Qm(w:World)(cs:Array Value)(t:TypeId)(n:Nat)(hn:n<=cs.size):(w.alloc (.cells cs t)).there w.heap.size 0 n:=fun j hj=>by
 refine⟨?_,Iy _ _ _ _⟩
 rw[LX,Lm,Nf (by omega)];rfl
theorem JF{w:World}{b o n:Nat}(h:w.there b o n)(hn:0<n):b<w.heap.size:=by
 obtain⟨u,hu⟩:=Option.isSome_iff_exists.1 (h 0 hn).1;exact Ln _ _ hu
theorem QE{w:World}{b o:Nat}{cs:List Value}(h:w.rangeAt b o cs)(hn:cs≠[]):b<w.heap.size:=by
 cases cs with
 | nil=>exact absurd rfl hn
 | cons c r=>exact Ln _ _ (h 0 c rfl)
theorem QX(x:Int)(h0:0<=x)(h1:x<9223372036854775808):IntKind.i64.wrap x=x:=by
 simp[IntKind.wrap,IntKind.bits,IntKind.signed];omega
theorem Ot(x n:Int)(w:World)(hn:0<n)(hn':n<32) :
  Calls prog 412 #[.int .u32 x,.int .u64 n] w fun e w'=>e = .returned (.int .u32 (Us x n))∧w'=w:=by
 go_enter func412,ntmps412;go_wp2
 go_ret
 refine⟨?_,rfl⟩
 simp only[Us,IntKind.wrap_u32']
 rfl
theorem Qfp(n:Int)(w:World)(b:Nat)(h0:0<=n)(hc:w.cell? ⟨b,72,none⟩=some (.int .u64 n)) :
  Calls prog 403 #[.pointer (some ⟨b,0,none⟩)] w fun e w'=>e = .returned (.int .i64 (n % 64))∧w'=w:=by
 go_enter func403,ntmps403;go_wp2
 go_ret
 exact⟨rfl,rfl⟩
theorem Qj6{w:World}{b i j:Nat}{v u:Value}(h:w.cell? ⟨b,i,none⟩=some u)(hne:i≠j):(w.setCell ⟨b,j,none⟩ v).drew.cell? ⟨b,i,none⟩=some u:=by
 rw[No,LO _ _ _ _ (fun e=>hne (by have:=Lw Addr.off e;simpa using this.symm))];exact h
theorem QdY:(prog.info? 403).map (·.size)=some 64:=by kernel_rfl
theorem QH{P:Program}{fn:Func}{p:Tmp}{ty:TypeId}(h:fn.results=#[.cell p ty])(tmps:Array Value)(w:World)(b o:Nat)(cs:List Value)(d:TypeDesc)
  (hp:tmps.getD p undef = .pointer (some ⟨b,o,none⟩)) (hc:w.rangeAt b o cs)
  (hu:P.underlying ty=some d) (hd:d.isRow=true) (hi:(P.info? ty).map (·.size)=some cs.length) :
  (results fn tmps).run P w = .ok (.agg cs.toArray) w:=by
 have xA:tmps[p]?.getD undef = .pointer (some ⟨b,o,none⟩):=by simpa using hp
 simp[results,h,xA,asAddr,run_loadVar_mid w b o ty cs d hc hu hd hi]
theorem Qr{B:Nat}{a w:World}(h:Below B a w){b:Nat}(hb:B<=b)(o:Nat)(cs:List Value):Below B a (w.setCells b o cs):=by
 induction cs generalizing o w with
 | nil=>exact h
 | cons c r ih=>exact ih (h.setCell (p:=⟨b,o,none⟩) hb c) (o+1)
structure Sch(w wr:World)(blk ws:List Int):Prop where
 below:Below w.heap.size w wr
 blk:wr.rangeAt w.heap.size 0 (cB blk)
 res:wr.there (w.heap.size+1) 0 64
 ws:wr.rangeAt (w.heap.size+1+1) 0 (cW (pad ws))
 wst:wr.there (w.heap.size+1+1) 0 64
theorem Sch.step{w wr:World}{blk ws:List Int}(h:Sch w wr blk ws)(hl:ws.length<64)(v:Int) :
  Sch w (wr.setCell ⟨w.heap.size+1+1,ws.length,none⟩ (.int .u32 v)).drew blk (ws++[v]):=by
 refine⟨(h.below.setCell (by show w.heap.size<=w.heap.size+1+1;omega) _).drew,?_,?_,?_,?_⟩
 ·rw[World.rangeAt_drew];exact Ua h.blk (by show w.heap.size+1+1≠w.heap.size;omega) _
 ·rw[World.there_drew];exact QK h.res _ _
 ·rw[World.rangeAt_drew];have:=YG h.ws ws.length (.int .u32 v);rw[Lm,QfC,QaZ hl] at this;exact this
 ·rw[World.there_drew];exact QK h.wst _ _
theorem Sch.drew{w wr:World}{blk ws:List Int}(h:Sch w wr blk ws):Sch w wr.drew blk ws :=
 ⟨h.below.drew,by rw[World.rangeAt_drew];exact h.blk,by rw[World.there_drew];exact h.res,by rw[World.rangeAt_drew];exact h.ws,by rw[World.there_drew];exact h.wst⟩
theorem Sch.start(w:World)(blk:List Int)(z1 z2:Array Value)(t1 t2 t3:TypeId)(h1:z1.size=64)(h2:z2=(cW (pad [])).toArray) :
  Sch w (((w.alloc (.cells (cB blk).toArray t1)).alloc (.cells z1 t2)).alloc (.cells z2 t3)) blk []:=by
 subst h2;have r1:=Qq w (cB blk) t1;have xA:=Qm (w.alloc (.cells (cB blk).toArray t1)) z1 t2 64 (by omega)
 have r3:=Qq ((w.alloc (.cells (cB blk).toArray t1)).alloc (.cells z1 t2)) (cW (pad [])) t3;have xB:=Qm ((w.alloc (.cells (cB blk).toArray t1)).alloc (.cells z1 t2)) (cW (pad [])).toArray t3 64 (by simp[Qo,pad])
 simp only[World.size_alloc] at r1 xA r3 xB;exact⟨(((Lb _ _).alloc (La _) _).alloc (by simp) _).alloc (by simp;omega) _,World.rangeAt_alloc (World.rangeAt_alloc r1 _) _,World.there_alloc xA _,r3,xB⟩
theorem QdX(blk:List Int)(hl:blk.length=64)(w:World) :
  Calls prog 411 #[.agg (cB blk).toArray] w fun e w'=>e = .returned (.agg (cW (Q2 blk 48)).toArray)∧Below w.heap.size w w':=by
 go_enter func411,ntmps411;go_wp2
 go_loopg [8] 16 (fun g i wr => ∃k:Nat,k<=16∧g=16 - k∧i = .int .i64 k∧Sch w wr blk (sch0 blk k))
 case atStart=>go_light;exact⟨0,Ll _,rfl,rfl,Sch.start w blk _ _ _ _ _ rfl rfl⟩
 case round =>
  obtain⟨k,hk,rfl,rfl,hs⟩:=hrel
  by_cases hlt:k<16
  ·have xP:(0:Int)<=(k:Int):=Lf _;have xQ:(k:Int)<16:=by omega
   obtain⟨m,hm⟩ : ∃m:Nat,4*k=m:=⟨_,rfl⟩;obtain⟨m1,xI⟩ : ∃m1:Nat,m+1=m1:=⟨_,rfl⟩;obtain⟨m2,xJ⟩ : ∃m2:Nat,m+2=m2:=⟨_,rfl⟩;obtain⟨m3,xK⟩ : ∃m3:Nat,m+3=m3:=⟨_,rfl⟩;have e0:IntKind.i64.wrap (4*(k:Int))=(m:Int):=by rw[QX _ (by omega) (by omega)];omega
   have e1:IntKind.i64.wrap ((m:Int)+1)=(m1:Int):=by rw[QX _ (by omega) (by omega)];omega
   have e2:IntKind.i64.wrap ((m:Int)+2)=(m2:Int):=by rw[QX _ (by omega) (by omega)];omega
   have e3:IntKind.i64.wrap ((m:Int)+3)=(m3:Int):=by rw[QX _ (by omega) (by omega)];omega
   have b0:(0:Int)<=(m:Int):=Lf _;have b1:(0:Int)<=(m1:Int):=Lf _;have b2:(0:Int)<=(m2:Int):=Lf _;have b3:(0:Int)<=(m3:Int):=Lf _;have d0:(m:Int)<64:=by omega
   have d1:(m1:Int)<64:=by omega
   have d2:(m2:Int)<64:=by omega
   have d3:(m3:Int)<64:=by omega
   have dk:(k:Int)<64:=by omega
   have c0:wr.cell? ⟨w.heap.size,m,none⟩=some (.int .u8 (blk.getD m 0)):=Yg hs.blk (by omega)
   have c1:wr.cell? ⟨w.heap.size,m1,none⟩=some (.int .u8 (blk.getD m1 0)):=Yg hs.blk (by omega)
   have c2:wr.cell? ⟨w.heap.size,m2,none⟩=some (.int .u8 (blk.getD m2 0)):=Yg hs.blk (by omega)
   have c3:wr.cell? ⟨w.heap.size,m3,none⟩=some (.int .u8 (blk.getD m3 0)):=Yg hs.blk (by omega)
   have st:wr.cell? ⟨w.heap.size+1+1,k,none⟩=some (.int .u32 ((pad (sch0 blk k)).getD k 0)):=Qc hs.ws (by rw[Um (by rw[O5];omega)];omega)
   have sf:wr.frozen? ⟨w.heap.size+1+1,k,none⟩=false:=by have:=(hs.wst k (by omega)).2;rwa [Lm] at this
   have HF:Hid (∀v,Sch w (wr.setCell ⟨w.heap.size+1+1,k,none⟩ (.int .u32 v)).drew blk (sch0 blk k++[v])):=fun v=>by
    have:=hs.step (by rw[O5];omega) v
    rwa [O5] at this
   have HV:Hid (sch0 blk (k+1)=sch0 blk k++[Qfr (blk.getD m 0) (blk.getD m1 0) (blk.getD m2 0) (blk.getD m3 0)]):=by
    show _=_
    subst hm xI xJ xK;rfl
   clear hs hm xI xJ xK;generalize (pad (sch0 blk k)).getD k 0=z at *;generalize blk.getD m 0=x0 at *;generalize blk.getD m1 0=x1 at *;generalize blk.getD m2 0=x2 at *;generalize blk.getD m3 0=x3 at *;go_wp2
   go_region_held3 (fun w'=>w'.cell? ⟨w.heap.size,m,none⟩=some (.int .u8 x0)∧w'.cell? ⟨w.heap.size,m1,none⟩=some (.int .u8 x1)∧w'.cell? ⟨w.heap.size,m2,none⟩=some (.int .u8 x2)∧w'.cell? ⟨w.heap.size,m3,none⟩=some (.int .u8 x3)) (first|assumption|(refine⟨?_,?_,?_,?_⟩ <;> first|assumption|(refine Qib (by assumption) ?_;show w.heap.size+1+1≠w.heap.size;omega))) (fail)
   go_wp2
   go_roundg (16 - (k+1))
   case rel =>
    go_light;refine⟨k+1,by omega,rfl,by go_num,?_⟩
    rw[HV.out];exact HF.out _
   case measure=>go_light;omega
  ·obtain rfl:k=16:=by omega
   clear hk hlt;go_wp2
   go_loopg [5] 48 (fun g i wr => ∃k:Nat,k<=48∧g=48 - k∧i = .int .i64 ((16+k:Nat):Int)∧Sch w wr blk (Q2 blk k))
   case atStart=>go_light;exact⟨0,Ll _,rfl,rfl,hs⟩
   case round =>
    clear hs;obtain⟨k,hk,rfl,rfl,hs⟩:=hrel
    by_cases hlt:k<48
    ·obtain⟨t,ht⟩ : ∃t:Nat,16+k=t:=⟨_,rfl⟩;obtain⟨k1,xG⟩ : ∃k1:Nat,k+1=k1:=⟨_,rfl⟩;obtain⟨k9,xH⟩ : ∃k9:Nat,k+9=k9:=⟨_,rfl⟩;obtain⟨xB,xC⟩ : ∃xB:Nat,k+14=xB:=⟨_,rfl⟩;rw[ht];have e0:IntKind.i64.wrap ((t:Int) - 16)=(k:Int):=by rw[QX _ (by omega) (by omega)];omega
     have e1:IntKind.i64.wrap ((t:Int) - 15)=(k1:Int):=by rw[QX _ (by omega) (by omega)];omega
     have e2:IntKind.i64.wrap ((t:Int) - 7)=(k9:Int):=by rw[QX _ (by omega) (by omega)];omega
     have e3:IntKind.i64.wrap ((t:Int) - 2)=(xB:Int):=by rw[QX _ (by omega) (by omega)];omega
     have b0:(0:Int)<=(k:Int):=Lf _;have b1:(0:Int)<=(k1:Int):=Lf _;have b2:(0:Int)<=(k9:Int):=Lf _;have b3:(0:Int)<=(xB:Int):=Lf _;have bt:(0:Int)<=(t:Int):=Lf _;have d0:(k:Int)<64:=by omega
     have d1:(k1:Int)<64:=by omega
     have d2:(k9:Int)<64:=by omega
     have d3:(xB:Int)<64:=by omega
     have dt:(t:Int)<64:=by omega
     have xA:=O6 blk k;have xN:(pad (Q2 blk k)).length=64:=Um (by omega)
     have c0:wr.cell? ⟨w.heap.size+1+1,k,none⟩=some (.int .u32 ((Q2 blk k).getD k 0)):=by rw[<-Q8];exact Qc hs.ws (by omega)
     have c1:wr.cell? ⟨w.heap.size+1+1,k1,none⟩=some (.int .u32 ((Q2 blk k).getD k1 0)):=by rw[<-Q8];exact Qc hs.ws (by omega)
     have c2:wr.cell? ⟨w.heap.size+1+1,k9,none⟩=some (.int .u32 ((Q2 blk k).getD k9 0)):=by rw[<-Q8];exact Qc hs.ws (by omega)
     have c3:wr.cell? ⟨w.heap.size+1+1,xB,none⟩=some (.int .u32 ((Q2 blk k).getD xB 0)):=by rw[<-Q8];exact Qc hs.ws (by omega)
     have st:wr.cell? ⟨w.heap.size+1+1,t,none⟩=some (.int .u32 ((Q2 blk k).getD t 0)):=by rw[<-Q8];exact Qc hs.ws (by omega)
     have sf:wr.frozen? ⟨w.heap.size+1+1,t,none⟩=false:=by have:=(hs.wst t (by omega)).2;rwa [Lm] at this
     have HF:Hid (∀v,Sch w (wr.drew.setCell ⟨w.heap.size+1+1,t,none⟩ (.int .u32 v)).drew blk (Q2 blk k++[v])):=fun v=>by
      have:=hs.drew.step (by omega) v
      rwa [xA,ht] at this
     have HV:Hid (Q2 blk (k+1)=Q2 blk k++[Qg9 ((Q2 blk k).getD k 0) ((Q2 blk k).getD k1 0) ((Q2 blk k).getD k9 0) ((Q2 blk k).getD xB 0)]):=by
      show _=_
      subst xG xH xC;rfl
     have HT:Hid (16+k=t):=ht;have N0:k≠t:=by omega
     have N1:k1≠t:=by omega
     have N2:k9≠t:=by omega
     have N3:xB≠t:=by omega
     clear hs ht xG xH xC xA xN hl;generalize (Q2 blk k).getD k 0=x0 at *;generalize (Q2 blk k).getD k1 0=x1 at *;generalize (Q2 blk k).getD k9 0=x2 at *;generalize (Q2 blk k).getD xB 0=x3 at *;generalize (Q2 blk k).getD t 0=z at *;go_wp2
     go_region_held3 (fun w'=>w'.cell? ⟨w.heap.size+1+1,k1,none⟩=some (.int .u32 x1)∧w'.cell? ⟨w.heap.size+1+1,xB,none⟩=some (.int .u32 x3)) (first|assumption|(refine⟨?_,?_⟩ <;> first|assumption|(rw[No];assumption))) (fail)
     go_wp2
     go_region_held3 (fun w'=>w'.cell? ⟨w.heap.size+1+1,k,none⟩=some (.int .u32 x0)∧w'.cell? ⟨w.heap.size+1+1,k9,none⟩=some (.int .u32 x2)) (first|assumption|(refine⟨?_,?_⟩ <;> first|assumption|(rw[No];assumption)|(refine Qj6 ?_ ?_ <;> assumption))) (first|(go_at_call 412;refine(Ot _ _ _ (by decide) (by decide)).mono ?_;rintro e w' ⟨rfl,rfl⟩))
     go_wp2
     go_roundg (48 - (k+1))
     case rel =>
      go_light;refine⟨k+1,by omega,rfl,?_,?_⟩
      ·have:=HT.out;go_num
      rw[HV.out];exact HF.out _
     case measure=>go_light;omega
    ·obtain rfl:k=48:=by omega
     have xA:=O6 blk 48;have xL:=hs.ws;rw[QeP xA] at xL;have xF:=hs.res;have xE:=hs.below;have hi:(prog.info? 403).map (·.size)=some (cW (Q2 blk 48)).length:=by rw[Qo,xA];exact QdY
     have xM:(prog.info? 403).map (·.size)=some (cW (Q2 blk 48)).toArray.size:=by simpa using hi
     have xD:wr.there (w.heap.size+1) 0 (cW (Q2 blk 48)).toArray.size:=by
      have xO:(cW (Q2 blk 48)).toArray.size=64:=by simp[Qo,xA]
      rw[xO];exact xF
     clear hs hk hlt hl xA;generalize hE:Q2 blk 48=ws at *;have HE:Hid (Q2 blk 48=ws):=hE;clear hE
     go_wp2_with (first|(refine wpList_load_mid rfl 403 _ rfl (w.heap.size+1+1) 0 rfl (cW ws) _ xL underlying403 rfl hi ?_)|(refine wpList_store_mid rfl 403 _ _ rfl (w.heap.size+1) 0 (cW ws).toArray rfl rfl xD xM (all_oneCell_toArray (Up ws)) ?_))
     refine Lv (v := .agg (cW ws).toArray) ?_ rfl ⟨by rw[HE.out],?_⟩
     ·refine QH results411 _ _ (w.heap.size+1) 0 (cW ws) (.array 64 110) ?_ ?_ underlying403 rfl hi
      ·rfl
      ·go_light
       simpa using World.rangeAt_setCells_same _ _ _ _ (by simpa using xD)
     ·go_light;exact Qr xE (by omega) _ _
structure S8 where
 a:Int
 b:Int
 c:Int
 d:Int
 e:Int
 f:Int
 g:Int
 h:Int
def oneI(e f g h r w:Int):Int :=
 IntKind.u32.wrap (IntKind.u32.wrap (IntKind.u32.wrap (IntKind.u32.wrap (h+bits .xor .u32 (bits .xor .u32 (Us e 6) (Us e 11)) (Us e 25))+bits .xor .u32 (bits .and .u32 e f) (bits .and .u32 (bits .xor .u32 IntKind.u32.max e) g))+r)+w)
def twoI(a b c:Int):Int :=
 IntKind.u32.wrap (bits .xor .u32 (bits .xor .u32 (Us a 2) (Us a 13)) (Us a 22)+bits .xor .u32 (bits .xor .u32 (bits .and .u32 a b) (bits .and .u32 a c)) (bits .and .u32 b c))
def S8.rnd(v:S8)(r w:Int):S8 :=
 { a:=IntKind.u32.wrap (oneI v.e v.f v.g v.h r w+twoI v.a v.b v.c),b:=v.a,c:=v.b,d:=v.c,e:=IntKind.u32.wrap (v.d+oneI v.e v.f v.g v.h r w),f:=v.e,g:=v.f,h:=v.g }
def rnds(v:S8)(rs ws:List Int):Nat->S8
 | 0=>v
 | k+1=>(rnds v rs ws k).rnd (rs.getD k 0) (ws.getD k 0)
def UG(st:List Int):S8:=⟨st.getD 0 0,st.getD 1 0,st.getD 2 0,st.getD 3 0,st.getD 4 0,st.getD 5 0,st.getD 6 0,st.getD 7 0⟩
def sumI(s v:S8):List Int :=
 [IntKind.u32.wrap (s.a+v.a),IntKind.u32.wrap (s.b+v.b),IntKind.u32.wrap (s.c+v.c),IntKind.u32.wrap (s.d+v.d),IntKind.u32.wrap (s.e+v.e),IntKind.u32.wrap (s.f+v.f),IntKind.u32.wrap (s.g+v.g),IntKind.u32.wrap (s.h+v.h)]
def YM(rs st blk:List Int):List Int:=sumI (UG st) (rnds (UG st) rs (Q2 blk 48) 64)
theorem Qh5(rs st blk:List Int):(YM rs st blk).length=8:=rfl
theorem QbE{st:List Int}(h:st.length=8) : ∃s0 s1 s2 s3 s4 s5 s6 s7,st=[s0,s1,s2,s3,s4,s5,s6,s7]:=by
 match st,h with
 | [s0,s1,s2,s3,s4,s5,s6,s7],_=>exact⟨s0,s1,s2,s3,s4,s5,s6,s7,rfl⟩
theorem QaB:(prog.info? 184).map (·.size)=some 64:=by kernel_rfl
theorem Ut:(prog.info? 346).map (·.size)=some 8:=by kernel_rfl
structure Fo(w wr:World)(st ws rs:List Int)(N:Nat):Prop where
 below:Below w.heap.size w wr
 st:wr.rangeAt w.heap.size 0 (cW st)
 res:wr.there (w.heap.size+1+1) 0 8
 ws:wr.rangeAt N 0 (cW ws)
 rs:wr.rangeAt 3 0 (cW rs)
theorem Fo.drew{w wr:World}{st ws rs:List Int}{N:Nat}(h:Fo w wr st ws rs N):Fo w wr.drew st ws rs N :=
 ⟨h.below.drew,by rw[World.rangeAt_drew];exact h.st,by rw[World.there_drew];exact h.res,by rw[World.rangeAt_drew];exact h.ws,by rw[World.rangeAt_drew];exact h.rs⟩
theorem Fo.start{w w':World}{st blk ws rs:List Int}{t1 t2 t3 t4:TypeId}{z:List Int}(hz:z.length=8){z2:Array Value}(hz2:z2.size=64)(hwl:ws.length=64)(hrl:rs.length=64)
  (hr:w.rangeAt 3 0 (cW rs))
  (hb:Below (((w.alloc (.cells (cW st).toArray t1)).alloc (.cells (cB blk).toArray t2)).alloc (.cells (cW z).toArray t3)).heap.size (((w.alloc (.cells (cW st).toArray t1)).alloc (.cells (cB blk).toArray t2)).alloc (.cells (cW z).toArray t3)) w') :
  Fo w ((w'.alloc (.cells z2 t4)).setCells w'.heap.size 0 (cW ws)) st ws rs w'.heap.size:=by
 have xB:3<w.heap.size:=QE hr (by intro h;have:=Lw List.length h;simp[Qo,hrl] at this)
 have hN:w.heap.size+3<=w'.heap.size:=by have:=hb.size;simp at this;omega
 have xA:Below w.heap.size w w':=((((Lb _ _).alloc (La _) _).alloc (by simp) _).alloc (by simp;omega) _).trans (hb.mono (by simp;omega))
 have h1:w'.rangeAt w.heap.size 0 (cW st):=Qn hb (by simp;omega) (World.rangeAt_alloc (World.rangeAt_alloc (Qq _ _ _) _) _)
 have h2:w'.there (w.heap.size+1+1) 0 8:=by
  have:=Qm ((w.alloc (.cells (cW st).toArray t1)).alloc (.cells (cB blk).toArray t2)) (cW z).toArray t3 8 (by simp[Qo,hz])
  simp only[World.size_alloc] at this;exact QT hb (by simp) this
 have h3:w'.rangeAt 3 0 (cW rs):=Qn xA xB hr;refine⟨Qr (xA.alloc (by omega) _) (by omega) _ _,?_,?_,?_,?_⟩
 ·exact World.rangeAt_setCells_apart (World.rangeAt_alloc h1 _) _ _ _ (Or.inl (by omega))
 ·exact World.there_setCells (World.there_alloc h2 _) _ _ _
 ·exact World.rangeAt_setCells_same _ _ _ _ (Qm _ _ _ _ (by rw[Qo,hwl,hz2];exact La _))
 ·exact World.rangeAt_setCells_apart (World.rangeAt_alloc h3 _) _ _ _ (Or.inl (by omega))
theorem Oi(st:List Int)(hst:st.length=8)(blk:List Int)(hl:blk.length=64)(w:World)(rs:List Int)(hrl:rs.length=64)(hr:w.rangeAt 3 0 (cW rs)) :
  Calls prog 404 #[.agg (cW st).toArray,.agg (cB blk).toArray] w fun e w'=>e = .returned (.agg (cW (YM rs st blk)).toArray)∧Below w.heap.size w w':=by
 obtain⟨s0,s1,s2,s3,s4,s5,s6,s7,rfl⟩:=QbE hst;clear hst;obtain⟨ws,xD⟩ : ∃ws,ws=Q2 blk 48:=⟨_,rfl⟩;have xH:ws.length=64:=by rw[xD,O6]
 have xB:=fun w=>QdX blk hl w
 rw[<-xD] at xB;have HE:Hid (ws=Q2 blk 48):=xD;clear xD;have xF:(prog.info? 184).map (·.size)=some (cB blk).length:=by rw[QA,hl];exact QaB
 have xG:(prog.info? 403).map (·.size)=some (cW ws).toArray.size:=by rw[NG,Qo,xH];exact QdY
 have xJ:(cW ws).toArray.size=64:=by simp[Qo,xH]
 have r1:=fun o=>World.rangeAt_alloc (Qq (w.alloc o) (cB blk) 184)
 simp only[World.size_alloc] at r1
 go_enter func404,ntmps404
 go_wp2_with (first|(refine wpList_load_mid rfl 184 _ rfl (w.heap.size+1) 0 rfl (cB blk) _ (r1 _ _) underlying184 rfl xF ?_)|(go_at_call 411;refine(xB _).mono ?_;rintro e w' ⟨rfl,xI⟩)|(refine wpList_store_mid rfl 403 _ _ rfl _ 0 (cW ws).toArray rfl rfl ?_ xG (all_oneCell_toArray (Up ws)) ?_;exact Qm _ _ _ _ (by rw[xJ];exact La 64)))
 go_simp
 have xA:=Fo.start (z:=[0,0,0,0,0,0,0,0]) (z2:=(cW (List.replicate 64 0)).toArray) (t4:=403) rfl rfl xH hrl hr xI;clear xI r1 xB;replace xA:Fo w ((w'.alloc (.cells #[.int .u32 0,.int .u32 0,.int .u32 0,.int .u32 0,.int .u32 0,.int .u32 0,.int .u32 0,.int .u32 0,.int .u32 0,.int .u32 0,.int .u32 0,.int .u32 0,.int .u32 0,.int .u32 0,.int .u32 0,.int .u32 0,.int .u32 0,.int .u32 0,.int .u32 0,.int .u32 0,.int .u32 0,.int .u32 0,.int .u32 0,.int .u32 0,.int .u32 0,.int .u32 0,.int .u32 0,.int .u32 0,.int .u32 0,.int .u32 0,.int .u32 0,.int .u32 0,.int .u32 0,.int .u32 0,.int .u32 0,.int .u32 0,.int .u32 0,.int .u32 0,.int .u32 0,.int .u32 0,.int .u32 0,.int .u32 0,.int .u32 0,.int .u32 0,.int .u32 0,.int .u32 0,.int .u32 0,.int .u32 0,.int .u32 0,.int .u32 0,.int .u32 0,.int .u32 0,.int .u32 0,.int .u32 0,.int .u32 0,.int .u32 0,.int .u32 0,.int .u32 0,.int .u32 0,.int .u32 0,.int .u32 0,.int .u32 0,.int .u32 0,.int .u32 0] 403)).setCells w'.heap.size 0 (cW ws)) [s0,s1,s2,s3,s4,s5,s6,s7] ws rs w'.heap.size:=xA;generalize ((w'.alloc (.cells #[.int .u32 0,.int .u32 0,.int .u32 0,.int .u32 0,.int .u32 0,.int .u32 0,.int .u32 0,.int .u32 0,.int .u32 0,.int .u32 0,.int .u32 0,.int .u32 0,.int .u32 0,.int .u32 0,.int .u32 0,.int .u32 0,.int .u32 0,.int .u32 0,.int .u32 0,.int .u32 0,.int .u32 0,.int .u32 0,.int .u32 0,.int .u32 0,.int .u32 0,.int .u32 0,.int .u32 0,.int .u32 0,.int .u32 0,.int .u32 0,.int .u32 0,.int .u32 0,.int .u32 0,.int .u32 0,.int .u32 0,.int .u32 0,.int .u32 0,.int .u32 0,.int .u32 0,.int .u32 0,.int .u32 0,.int .u32 0,.int .u32 0,.int .u32 0,.int .u32 0,.int .u32 0,.int .u32 0,.int .u32 0,.int .u32 0,.int .u32 0,.int .u32 0,.int .u32 0,.int .u32 0,.int .u32 0,.int .u32 0,.int .u32 0,.int .u32 0,.int .u32 0,.int .u32 0,.int .u32 0,.int .u32 0,.int .u32 0,.int .u32 0,.int .u32 0] 403)).setCells w'.heap.size 0 (cW ws))=W2 at *;generalize w'.heap.size=N at *;clear w';have c0:W2.cell? ⟨w.heap.size,0,none⟩=some (.int .u32 s0):=Qc xA.st (i:=0) (by simp)
 have c1:W2.cell? ⟨w.heap.size,1,none⟩=some (.int .u32 s1):=Qc xA.st (i:=1) (by simp)
 have c2:W2.cell? ⟨w.heap.size,2,none⟩=some (.int .u32 s2):=Qc xA.st (i:=2) (by simp)
 have c3:W2.cell? ⟨w.heap.size,3,none⟩=some (.int .u32 s3):=Qc xA.st (i:=3) (by simp)
 have c4:W2.cell? ⟨w.heap.size,4,none⟩=some (.int .u32 s4):=Qc xA.st (i:=4) (by simp)
 have c5:W2.cell? ⟨w.heap.size,5,none⟩=some (.int .u32 s5):=Qc xA.st (i:=5) (by simp)
 have c6:W2.cell? ⟨w.heap.size,6,none⟩=some (.int .u32 s6):=Qc xA.st (i:=6) (by simp)
 have c7:W2.cell? ⟨w.heap.size,7,none⟩=some (.int .u32 s7):=Qc xA.st (i:=7) (by simp)
 go_region_held3 (fun w'=>w'.cell? ⟨w.heap.size,0,none⟩=some (.int .u32 s0)∧w'.cell? ⟨w.heap.size,1,none⟩=some (.int .u32 s1)∧w'.cell? ⟨w.heap.size,2,none⟩=some (.int .u32 s2)∧w'.cell? ⟨w.heap.size,3,none⟩=some (.int .u32 s3)) (first|assumption|(refine⟨?_,?_,?_,?_⟩ <;> first|assumption|(rw[No];assumption))) (fail)
 go_wp2
 go_region_held3 (fun w'=>w'.cell? ⟨w.heap.size,4,none⟩=some (.int .u32 s4)∧w'.cell? ⟨w.heap.size,5,none⟩=some (.int .u32 s5)∧w'.cell? ⟨w.heap.size,6,none⟩=some (.int .u32 s6)∧w'.cell? ⟨w.heap.size,7,none⟩=some (.int .u32 s7)) (first|assumption|(refine⟨?_,?_,?_,?_⟩ <;> first|assumption|(rw[No];assumption))) (fail)
 clear c0 c1 c2 c3 c4 c5 c6 c7;go_wp2
 go_loopg [6,7,8,9,10,11,12,13,35] 64 (fun gk a b c d e f g h i wr => ∃(k:Nat) (v:S8),k<=64∧gk=64 - k∧i = .int .i64 k∧Hid (v=rnds (UG [s0,s1,s2,s3,s4,s5,s6,s7]) rs ws k)∧a = .int .u32 v.a∧b = .int .u32 v.b∧c = .int .u32 v.c∧d = .int .u32 v.d∧e = .int .u32 v.e∧f = .int .u32 v.f∧g = .int .u32 v.g∧h = .int .u32 v.h∧Fo w wr [s0,s1,s2,s3,s4,s5,s6,s7] ws rs N)
 case atStart=>go_light;exact⟨0,UG [s0,s1,s2,s3,s4,s5,s6,s7],Ll _,rfl,rfl,rfl,rfl,rfl,rfl,rfl,rfl,rfl,rfl,rfl,xA.drew.drew⟩
 case round =>
  clear xA;obtain⟨k,v,hk,rfl,rfl,hv,rfl,rfl,rfl,rfl,rfl,rfl,rfl,rfl,xA⟩:=hrel
  by_cases hlt:k<64
  ·have xK:(0:Int)<=(k:Int):=Lf _;have xL:(k:Int)<64:=by omega
   have cr:=Qc xA.rs (i:=k) (by omega)
   have cw:=Qc xA.ws (i:=k) (by omega)
   have HV:Hid (∀v',v'=v.rnd (rs.getD k 0) (ws.getD k 0)->v'=rnds (UG [s0,s1,s2,s3,s4,s5,s6,s7]) rs ws (k+1)):=fun v' h=>by
    rw[h,show v=rnds (UG [s0,s1,s2,s3,s4,s5,s6,s7]) rs ws k from hv];rfl
   have HF:Hid (Fo w wr.drew [s0,s1,s2,s3,s4,s5,s6,s7] ws rs N):=xA.drew;clear xA hv;generalize rs.getD k 0=r at *;generalize ws.getD k 0=x at *;obtain⟨a,b,c,d,e,f,g,h⟩:=v
   dsimp only at *
   go_wp2
   go_region_held3 (fun w'=>w'.cell? ⟨3,k,none⟩=some (.int .u32 r)∧w'.cell? ⟨N,k,none⟩=some (.int .u32 x)) (first|assumption|(refine⟨?_,?_⟩ <;> first|assumption|(rw[No];assumption))) (first|(go_at_call 412;refine(Ot _ _ _ (by decide) (by decide)).mono ?_;rintro e w' ⟨rfl,rfl⟩))
   go_wp2_with (go_at_call 412;refine(Ot _ _ _ (by decide) (by decide)).mono ?_;rintro e w' ⟨rfl,rfl⟩)
   go_roundg (64 - (k+1))
   case rel=>go_light;refine⟨k+1,_,by omega,rfl,by go_num,HV.out _ rfl,?_,rfl,rfl,rfl,?_,rfl,rfl,rfl,HF.out⟩ <;> simp only[S8.rnd,oneI,twoI,IntKind.wrap_u32']
   case measure=>go_light;omega
  ·obtain rfl:k=64:=by omega
   clear hk hlt;have c0:wr.cell? ⟨w.heap.size,0,none⟩=some (.int .u32 s0):=Qc xA.st (i:=0) (by simp)
   have c1:wr.cell? ⟨w.heap.size,1,none⟩=some (.int .u32 s1):=Qc xA.st (i:=1) (by simp)
   have c2:wr.cell? ⟨w.heap.size,2,none⟩=some (.int .u32 s2):=Qc xA.st (i:=2) (by simp)
   have c3:wr.cell? ⟨w.heap.size,3,none⟩=some (.int .u32 s3):=Qc xA.st (i:=3) (by simp)
   have c4:wr.cell? ⟨w.heap.size,4,none⟩=some (.int .u32 s4):=Qc xA.st (i:=4) (by simp)
   have c5:wr.cell? ⟨w.heap.size,5,none⟩=some (.int .u32 s5):=Qc xA.st (i:=5) (by simp)
   have c6:wr.cell? ⟨w.heap.size,6,none⟩=some (.int .u32 s6):=Qc xA.st (i:=6) (by simp)
   have c7:wr.cell? ⟨w.heap.size,7,none⟩=some (.int .u32 s7):=Qc xA.st (i:=7) (by simp)
   have xC:=xA.res;have xE:=xA.below;clear xA;have HV:Hid (YM rs [s0,s1,s2,s3,s4,s5,s6,s7] blk=sumI ⟨s0,s1,s2,s3,s4,s5,s6,s7⟩ v):=by
    show _=_
    rw[show v=_ from hv,show ws=_ from HE];rfl
   clear hv;obtain⟨a,b,c,d,e,f,g,h⟩:=v
   dsimp only at *
   go_wp2_with (refine wpList_store_mid rfl 346 _ _ rfl (w.heap.size+1+1) 0 (cW [_,_,_,_,_,_,_,_]).toArray rfl rfl xC Ut (all_oneCell_toArray (Up _)) ?_)
   refine Lv (v := .agg (cW (sumI ⟨s0,s1,s2,s3,s4,s5,s6,s7⟩ ⟨a,b,c,d,e,f,g,h⟩)).toArray) ?_ rfl ⟨by rw[HV.out],?_⟩
   ·refine QH results404 _ _ (w.heap.size+1+1) 0 (cW (sumI ⟨s0,s1,s2,s3,s4,s5,s6,s7⟩ ⟨a,b,c,d,e,f,g,h⟩)) (.array 8 110) ?_ ?_ underlying346 rfl Ut
    ·rfl
    ·go_light;simp only[sumI,IntKind.wrap_u32'];exact World.rangeAt_setCells_same _ _ _ _ xC
   ·go_light;exact Qr xE (by omega) _ _
end Go.Proofs.YtoblgjledefdbaaGreatDoor
