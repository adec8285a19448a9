/- Own work. -/
import Derived.Test.YtdocjikpcbmcgaaGreatDoorQnA
import Derived.WalkSpells
import Derived.Deep.RegionHeld3
import Derived.Deep.DrawnRows
import Derived.Deep.Light
set_option maxRecDepth 100000
set_option maxHeartbeats 2000000
namespace Go.Proofs.YtdocjikpcbmcgaaGreatDoor
open Go.RowKit
attribute [local go_sem ↓] Go.wp_at_zero Go.wp_at_succ
open Go.Proofs.Tryz
def UL(x n:Int):Int:=bits .or .u32 (x / 2^n.toNat) (IntKind.u32.wrap (x*2^(32 - n).toNat))
def cB(l:List Int):List Value:=l.map (Value.int .u8)
def cW(l:List Int):List Value:=l.map (Value.int .u32)
def pad(l:List Int):List Int:=l++List.replicate (64 - l.length) 0
def Qfy(a b c d:Int):Int :=
 bits .or .u32 (bits .or .u32 (bits .or .u32 (IntKind.u32.wrap (IntKind.u32.wrap a*16777216)) (IntKind.u32.wrap (IntKind.u32.wrap b*65536))) (IntKind.u32.wrap (IntKind.u32.wrap c*256))) (IntKind.u32.wrap d)
def sch0(blk:List Int):Nat->List Int
 | 0=>[]
 | k+1=>sch0 blk k++[Qfy (blk.getD (4*k) 0) (blk.getD (4*k+1) 0) (blk.getD (4*k+2) 0) (blk.getD (4*k+3) 0)]
def QeY(a x c y:Int):Int :=
 IntKind.u32.wrap (IntKind.u32.wrap (IntKind.u32.wrap (a+bits .xor .u32 (bits .xor .u32 (UL x 7) (UL x 18)) (x / 8))+c)+bits .xor .u32 (bits .xor .u32 (UL y 17) (UL y 19)) (y / 1024))
def Yd(blk:List Int):Nat->List Int
 | 0=>sch0 blk 16
 | k+1=>Yd blk k++[QeY ((Yd blk k).getD k 0) ((Yd blk k).getD (k+1) 0) ((Yd blk k).getD (k+9) 0) ((Yd blk k).getD (k+14) 0)]
theorem O8(blk:List Int)(k:Nat):(sch0 blk k).length=k:=by
 induction k with
 | zero=>rfl
 | succ k ih=>simp[sch0,ih]
theorem Qaa(blk:List Int)(k:Nat):(Yd blk k).length=16+k:=by
 induction k with
 | zero=>exact O8 _ _
 | succ k ih=>simp only[Yd,List.length_append,ih,List.length_cons,List.length_nil];omega
theorem Uv{l:List Int}(h:l.length<=64):(pad l).length=64:=by simp[pad];omega
theorem Qe6{l:List Int}(h:l.length=64):pad l=l:=by simp[pad,h]
theorem Yn(l:List Int)(i:Nat):(pad l).getD i 0=l.getD i 0:=by
 unfold pad;simp only[List.getD_eq_getElem?_getD]
 by_cases h:i<l.length
 ·rw[LL h]
 ·rw[LN (by omega),N8 (l:=l) (by omega),IG]
  split <;> rfl
theorem Qbc{l:List Int}(h:l.length<64)(v:Int):(pad l).set l.length v=pad (l++[v]):=by
 unfold pad;rw[Nj _ _ (Ld _)];obtain⟨n,hn⟩ : ∃n,64 - l.length=n+1:=⟨64 - l.length - 1,by omega⟩
 have xA:64 - (l++[v]).length=n:=by simp;omega
 rw[hn,xA,List.replicate_succ];simp
theorem Qgy{w:World}{b o:Nat}{l:List Int}(h:w.rangeAt b o (cB l)){i:Nat}(hi:i<l.length):w.cell? ⟨b,o+i,none⟩=some (.int .u8 (l.getD i 0)) :=
 h i _ (by simp[cB,List.getElem?_eq_getElem hi,List.getD_eq_getElem?_getD])
theorem Qk8{w:World}{b o:Nat}{l:List Int}(h:w.rangeAt b o (cW l)){i:Nat}(hi:i<l.length):w.cell? ⟨b,o+i,none⟩=some (.int .u32 (l.getD i 0)) :=
 h i _ (by simp[cW,List.getElem?_eq_getElem hi,List.getD_eq_getElem?_getD])
theorem Yt{w:World}{b:Nat}{l:List Int}(h:w.rangeAt b 0 (cB l)){i:Nat}(hi:i<l.length):w.cell? ⟨b,i,none⟩=some (.int .u8 (l.getD i 0)):=by
 have:=Qgy h hi;rwa [Lr] at this
theorem Qf{w:World}{b:Nat}{l:List Int}(h:w.rangeAt b 0 (cW l)){i:Nat}(hi:i<l.length):w.cell? ⟨b,i,none⟩=some (.int .u32 (l.getD i 0)):=by
 have:=Qk8 h hi;rwa [Lr] at this
theorem Qo(l:List Int):(cW l).length=l.length:=by simp[cW]
theorem Qw(l:List Int):(cB l).length=l.length:=by simp[cB]
theorem UC(l:List Int) : ∀v∈cW l,v.oneCell'=true:=by
 intro v hv;obtain⟨x,_,rfl⟩:=List.mem_map.1 hv;rfl
theorem JD(l:List Int) : ∀v∈cB l,v.oneCell'=true:=by
 intro v hv;obtain⟨x,_,rfl⟩:=List.mem_map.1 hv;rfl
theorem QfG(l:List Int)(i:Nat)(v:Int):(cW l).set i (.int .u32 v)=cW (l.set i v):=by simp[cW,List.map_set]
theorem QfE(l:List Int)(i:Nat)(v:Int):(cB l).set i (.int .u8 v)=cB (l.set i v):=by simp[cB,List.map_set]
theorem QhR{w:World}{a b:Addr}{v u:Value}(h:w.cell? b=some u)(hne:a.block≠b.block):(w.setCell a v).drew.cell? b=some u:=by
 rw[Nn,LJ _ _ _ _ (fun e=>hne (by rw[e]))];exact h
theorem UB{w:World}{b o:Nat}{cs:List Value}(h:w.rangeAt b o cs)(i:Nat)(v:Value):(w.setCell ⟨b,o+i,none⟩ v).rangeAt b o (cs.set i v):=fun j u hu=>by
 by_cases e:i=j
 ·subst e;rw[List.getElem?_set_self'] at hu
  cases hc:cs[i]? with
  | none=>simp[hc] at hu
  | some c =>
   simp[hc] at hu;subst hu;exact LZ _ _ _ (h i c hc)
 ·rw[Iu e] at hu;rw[LJ _ _ _ _ (fun e'=>e (by have:=LU Addr.off e';simp at this;omega))]
  exact h j u hu
theorem Un{w:World}{b o:Nat}{cs:List Value}(h:w.rangeAt b o cs){a:Addr}(ha:a.block≠b)(v:Value):(w.setCell a v).rangeAt b o cs:=fun j u hu=>by
 rw[LJ _ _ _ _ (fun e=>ha (by rw[e]))];exact h j u hu
theorem Yb{w:World}{b o n:Nat}(h:w.there b o n)(a:Addr)(v:Value):(w.setCell a v).there b o n:=fun j hj=>by
 obtain⟨h1,h2⟩:=h j hj;refine⟨?_,by rw[Ib];exact h2⟩
 obtain⟨u,hu⟩:=Option.isSome_iff_exists.1 h1
 by_cases e:a=⟨b,o+j,none⟩
 ·subst e;rw[LZ _ _ _ hu];rfl
 ·rw[LJ _ _ _ _ e,hu];rfl
theorem Ql{w w':World}{B b o:Nat}{cs:List Value}(hb:Below B w w')(hlt:b<B)(h:w.rangeAt b o cs):w'.rangeAt b o cs:=fun j u hu=>by
 rw[hb.cell (p:=⟨b,o+j,none⟩) hlt];exact h j u hu
theorem Ye{w w':World}{B b o n:Nat}(hb:Below B w w')(hlt:b<B)(h:w.there b o n):w'.there b o n:=fun j hj=>by
 rw[hb.cell (p:=⟨b,o+j,none⟩) hlt,hb.frozen (p:=⟨b,o+j,none⟩) hlt];exact h j hj
theorem Qu(w:World)(cs:List Value)(t:TypeId):(w.alloc (.cells cs.toArray t)).rangeAt w.heap.size 0 cs:=fun j u hu=>by
 rw[Ia,Lr];simpa using hu
theorem Qz(w:World)(cs:Array Value)(t:TypeId)(n:Nat)(hn:n<=cs.size):(w.alloc (.cells cs t)).there w.heap.size 0 n:=fun j hj=>by
 refine⟨?_,World.frozen?_alloc_new _ _ _ _⟩
 rw[Ia,Lr,Nl (by omega)];rfl
theorem JV{w:World}{b o n:Nat}(h:w.there b o n)(hn:0<n):b<w.heap.size:=by
 obtain⟨u,hu⟩:=Option.isSome_iff_exists.1 (h 0 hn).1;exact Lh _ _ hu
theorem QU{w:World}{b o:Nat}{cs:List Value}(h:w.rangeAt b o cs)(hn:cs≠[]):b<w.heap.size:=by
 cases cs with
 | nil=>exact absurd rfl hn
 | cons c r=>exact Lh _ _ (h 0 c rfl)
theorem Yh(x:Int)(h0:0<=x)(h1:x<9223372036854775808):IntKind.i64.wrap x=x:=by
 simp[IntKind.wrap,IntKind.bits,IntKind.signed];omega
theorem Oz(x n:Int)(w:World)(hn:0<n)(hn':n<32) :
  Calls prog 197 #[.int .u32 x,.int .u64 n] w fun e w'=>e = .returned (.int .u32 (UL x n))∧w'=w:=by
 go_enter func197,ntmps197;go_wp2
 go_ret
 refine⟨?_,rfl⟩
 simp only[UL,IntKind.wrap_u32']
 rfl
theorem Qfx(n:Int)(w:World)(b:Nat)(h0:0<=n)(hc:w.cell? ⟨b,72,none⟩=some (.int .u64 n)) :
  Calls prog 193 #[.pointer (some ⟨b,0,none⟩)] w fun e w'=>e = .returned (.int .i64 (n % 64))∧w'=w:=by
 go_enter func193,ntmps193;go_wp2
 go_ret
 exact⟨rfl,rfl⟩
theorem QjC{w:World}{b i j:Nat}{v u:Value}(h:w.cell? ⟨b,i,none⟩=some u)(hne:i≠j):(w.setCell ⟨b,j,none⟩ v).drew.cell? ⟨b,i,none⟩=some u:=by
 rw[Nn,LJ _ _ _ _ (fun e=>hne (by have:=LU Addr.off e;simpa using this.symm))];exact h
theorem Qeg:(prog.info? 167).map (·.size)=some 64:=by kernel_rfl
theorem Yj{P:Program}{fn:Func}{p:Tmp}{ty:TypeId}(h:fn.results=#[.cell p ty])(tmps:Array Value)(w:World)(b o:Nat)(cs:List Value)(d:TypeDesc)
  (hp:tmps.getD p undef = .pointer (some ⟨b,o,none⟩)) (hc:w.rangeAt b o cs)
  (hu:P.underlying ty=some d) (hd:d.isRow=true) (hi:(P.info? ty).map (·.size)=some cs.length) :
  (results fn tmps).run P w = .ok (.agg cs.toArray) w:=by
 have xA:tmps[p]?.getD undef = .pointer (some ⟨b,o,none⟩):=by simpa using hp
 simp[results,h,xA,asAddr,run_loadVar_mid w b o ty cs d hc hu hd hi]
theorem Qs{B:Nat}{a w:World}(h:Below B a w){b:Nat}(hb:B<=b)(o:Nat)(cs:List Value):Below B a (w.setCells b o cs):=by
 induction cs generalizing o w with
 | nil=>exact h
 | cons c r ih=>exact ih (h.setCell (p:=⟨b,o,none⟩) hb c) (o+1)
structure Sch(w wr:World)(blk ws:List Int):Prop where
 below:Zb w wr
 blk:wr.rangeAt w.heap.size 0 (cB blk)
 res:wr.there (w.heap.size+1) 0 64
 ws:wr.rangeAt (w.heap.size+1+1) 0 (cW (pad ws))
 wst:wr.there (w.heap.size+1+1) 0 64
theorem Sch.step{w wr:World}{blk ws:List Int}(h:Sch w wr blk ws)(hl:ws.length<64)(v:Int) :
  Sch w (wr.setCell ⟨w.heap.size+1+1,ws.length,none⟩ (.int .u32 v)).drew blk (ws++[v]):=by
 refine⟨(h.below.setCell (by show w.heap.size<=w.heap.size+1+1;omega) _).drew,?_,?_,?_,?_⟩
 ·rw[World.rangeAt_drew];exact Un h.blk (by show w.heap.size+1+1≠w.heap.size;omega) _
 ·rw[World.there_drew];exact Yb h.res _ _
 ·rw[World.rangeAt_drew];have:=UB h.ws ws.length (.int .u32 v);rw[Lr,QfG,Qbc hl] at this;exact this
 ·rw[World.there_drew];exact Yb h.wst _ _
theorem Sch.drew{w wr:World}{blk ws:List Int}(h:Sch w wr blk ws):Sch w wr.drew blk ws :=
 ⟨h.below.drew,by rw[World.rangeAt_drew];exact h.blk,by rw[World.there_drew];exact h.res,by rw[World.rangeAt_drew];exact h.ws,by rw[World.there_drew];exact h.wst⟩
theorem Sch.start(w:World)(blk:List Int)(z1 z2:Array Value)(t1 t2 t3:TypeId)(h1:z1.size=64)(h2:z2=(cW (pad [])).toArray) :
  Sch w (((w.alloc (.cells (cB blk).toArray t1)).alloc (.cells z1 t2)).alloc (.cells z2 t3)) blk []:=by
 subst h2;have r1:=Qu w (cB blk) t1;have xA:=Qz (w.alloc (.cells (cB blk).toArray t1)) z1 t2 64 (by omega)
 have r3:=Qu ((w.alloc (.cells (cB blk).toArray t1)).alloc (.cells z1 t2)) (cW (pad [])) t3;have xB:=Qz ((w.alloc (.cells (cB blk).toArray t1)).alloc (.cells z1 t2)) (cW (pad [])).toArray t3 64 (by simp[Qo,pad])
 simp only[World.size_alloc] at r1 xA r3 xB;exact⟨(((Lb _ _).alloc (Ld _) _).alloc (by simp) _).alloc (by simp;omega) _,World.rangeAt_alloc (World.rangeAt_alloc r1 _) _,World.there_alloc xA _,r3,xB⟩
theorem Qed(blk:List Int)(hl:blk.length=64)(w:World) :
  Zr 196 #[.agg (cB blk).toArray] w (.agg (cW (Yd blk 48)).toArray):=by
 go_enter func196,ntmps196;go_wp2
 go_loopg [8] 16 (fun g i wr => ∃k:Nat,k<=16∧g=16 - k∧i = .int .i64 k∧Sch w wr blk (sch0 blk k))
 case atStart=>go_light;exact⟨0,Ll _,rfl,rfl,Sch.start w blk _ _ _ _ _ rfl rfl⟩
 case round =>
  obtain⟨k,hk,rfl,rfl,hs⟩:=hrel
  by_cases hlt:k<16
  ·have xP:(0:Int)<=(k:Int):=Lf _;have xQ:(k:Int)<16:=by omega
   obtain⟨m,hm⟩ : ∃m:Nat,4*k=m:=⟨_,rfl⟩;obtain⟨m1,xI⟩ : ∃m1:Nat,m+1=m1:=⟨_,rfl⟩;obtain⟨m2,xJ⟩ : ∃m2:Nat,m+2=m2:=⟨_,rfl⟩;obtain⟨m3,xK⟩ : ∃m3:Nat,m+3=m3:=⟨_,rfl⟩;have e0:IntKind.i64.wrap (4*(k:Int))=(m:Int):=by rw[Yh _ (by omega) (by omega)];omega
   have e1:IntKind.i64.wrap ((m:Int)+1)=(m1:Int):=by rw[Yh _ (by omega) (by omega)];omega
   have e2:IntKind.i64.wrap ((m:Int)+2)=(m2:Int):=by rw[Yh _ (by omega) (by omega)];omega
   have e3:IntKind.i64.wrap ((m:Int)+3)=(m3:Int):=by rw[Yh _ (by omega) (by omega)];omega
   have b0:(0:Int)<=(m:Int):=Lf _;have b1:(0:Int)<=(m1:Int):=Lf _;have b2:(0:Int)<=(m2:Int):=Lf _;have b3:(0:Int)<=(m3:Int):=Lf _;have d0:(m:Int)<64:=by omega
   have d1:(m1:Int)<64:=by omega
   have d2:(m2:Int)<64:=by omega
   have d3:(m3:Int)<64:=by omega
   have dk:(k:Int)<64:=by omega
   have c0:wr.cell? ⟨w.heap.size,m,none⟩=some (.int .u8 (blk.getD m 0)):=Yt hs.blk (by omega)
   have c1:wr.cell? ⟨w.heap.size,m1,none⟩=some (.int .u8 (blk.getD m1 0)):=Yt hs.blk (by omega)
   have c2:wr.cell? ⟨w.heap.size,m2,none⟩=some (.int .u8 (blk.getD m2 0)):=Yt hs.blk (by omega)
   have c3:wr.cell? ⟨w.heap.size,m3,none⟩=some (.int .u8 (blk.getD m3 0)):=Yt hs.blk (by omega)
   have st:wr.cell? ⟨w.heap.size+1+1,k,none⟩=some (.int .u32 ((pad (sch0 blk k)).getD k 0)):=Qf hs.ws (by rw[Uv (by rw[O8];omega)];omega)
   have sf:wr.frozen? ⟨w.heap.size+1+1,k,none⟩=false:=by have:=(hs.wst k (by omega)).2;rwa [Lr] at this
   have HF:Hid (∀v,Sch w (wr.setCell ⟨w.heap.size+1+1,k,none⟩ (.int .u32 v)).drew blk (sch0 blk k++[v])):=fun v=>by
    have:=hs.step (by rw[O8];omega) v
    rwa [O8] at this
   have HV:Hid (sch0 blk (k+1)=sch0 blk k++[Qfy (blk.getD m 0) (blk.getD m1 0) (blk.getD m2 0) (blk.getD m3 0)]):=by
    show _=_
    subst hm xI xJ xK;rfl
   clear hs hm xI xJ xK;generalize (pad (sch0 blk k)).getD k 0=z at *;generalize blk.getD m 0=x0 at *;generalize blk.getD m1 0=x1 at *;generalize blk.getD m2 0=x2 at *;generalize blk.getD m3 0=x3 at *;go_wp2
   go_region_held3 (fun w'=>w'.cell? ⟨w.heap.size,m,none⟩=some (.int .u8 x0)∧w'.cell? ⟨w.heap.size,m1,none⟩=some (.int .u8 x1)∧w'.cell? ⟨w.heap.size,m2,none⟩=some (.int .u8 x2)∧w'.cell? ⟨w.heap.size,m3,none⟩=some (.int .u8 x3)) (first|assumption|(refine⟨?_,?_,?_,?_⟩ <;> first|assumption|(refine QhR (by assumption) ?_;show w.heap.size+1+1≠w.heap.size;omega))) (fail)
   go_wp2
   go_roundg (16 - (k+1))
   case rel =>
    go_light;refine⟨k+1,by omega,rfl,by go_num,?_⟩
    rw[HV.out];exact HF.out _
   case measure=>go_light;omega
  ·obtain rfl:k=16:=by omega
   clear hk hlt;go_wp2
   go_loopg [5] 48 (fun g i wr => ∃k:Nat,k<=48∧g=48 - k∧i = .int .i64 ((16+k:Nat):Int)∧Sch w wr blk (Yd blk k))
   case atStart=>go_light;exact⟨0,Ll _,rfl,rfl,hs⟩
   case round =>
    clear hs;obtain⟨k,hk,rfl,rfl,hs⟩:=hrel
    by_cases hlt:k<48
    ·obtain⟨t,ht⟩ : ∃t:Nat,16+k=t:=⟨_,rfl⟩;obtain⟨k1,xG⟩ : ∃k1:Nat,k+1=k1:=⟨_,rfl⟩;obtain⟨k9,xH⟩ : ∃k9:Nat,k+9=k9:=⟨_,rfl⟩;obtain⟨xB,xC⟩ : ∃xB:Nat,k+14=xB:=⟨_,rfl⟩;rw[ht];have e0:IntKind.i64.wrap ((t:Int) - 16)=(k:Int):=by rw[Yh _ (by omega) (by omega)];omega
     have e1:IntKind.i64.wrap ((t:Int) - 15)=(k1:Int):=by rw[Yh _ (by omega) (by omega)];omega
     have e2:IntKind.i64.wrap ((t:Int) - 7)=(k9:Int):=by rw[Yh _ (by omega) (by omega)];omega
     have e3:IntKind.i64.wrap ((t:Int) - 2)=(xB:Int):=by rw[Yh _ (by omega) (by omega)];omega
     have b0:(0:Int)<=(k:Int):=Lf _;have b1:(0:Int)<=(k1:Int):=Lf _;have b2:(0:Int)<=(k9:Int):=Lf _;have b3:(0:Int)<=(xB:Int):=Lf _;have bt:(0:Int)<=(t:Int):=Lf _;have d0:(k:Int)<64:=by omega
     have d1:(k1:Int)<64:=by omega
     have d2:(k9:Int)<64:=by omega
     have d3:(xB:Int)<64:=by omega
     have dt:(t:Int)<64:=by omega
     have xA:=Qaa blk k;have xN:(pad (Yd blk k)).length=64:=Uv (by omega)
     have c0:wr.cell? ⟨w.heap.size+1+1,k,none⟩=some (.int .u32 ((Yd blk k).getD k 0)):=by rw[<-Yn];exact Qf hs.ws (by omega)
     have c1:wr.cell? ⟨w.heap.size+1+1,k1,none⟩=some (.int .u32 ((Yd blk k).getD k1 0)):=by rw[<-Yn];exact Qf hs.ws (by omega)
     have c2:wr.cell? ⟨w.heap.size+1+1,k9,none⟩=some (.int .u32 ((Yd blk k).getD k9 0)):=by rw[<-Yn];exact Qf hs.ws (by omega)
     have c3:wr.cell? ⟨w.heap.size+1+1,xB,none⟩=some (.int .u32 ((Yd blk k).getD xB 0)):=by rw[<-Yn];exact Qf hs.ws (by omega)
     have st:wr.cell? ⟨w.heap.size+1+1,t,none⟩=some (.int .u32 ((Yd blk k).getD t 0)):=by rw[<-Yn];exact Qf hs.ws (by omega)
     have sf:wr.frozen? ⟨w.heap.size+1+1,t,none⟩=false:=by have:=(hs.wst t (by omega)).2;rwa [Lr] at this
     have HF:Hid (∀v,Sch w (wr.drew.setCell ⟨w.heap.size+1+1,t,none⟩ (.int .u32 v)).drew blk (Yd blk k++[v])):=fun v=>by
      have:=hs.drew.step (by omega) v
      rwa [xA,ht] at this
     have HV:Hid (Yd blk (k+1)=Yd blk k++[QeY ((Yd blk k).getD k 0) ((Yd blk k).getD k1 0) ((Yd blk k).getD k9 0) ((Yd blk k).getD xB 0)]):=by
      show _=_
      subst xG xH xC;rfl
     have HT:Hid (16+k=t):=ht;have N0:k≠t:=by omega
     have N1:k1≠t:=by omega
     have N2:k9≠t:=by omega
     have N3:xB≠t:=by omega
     clear hs ht xG xH xC xA xN hl;generalize (Yd blk k).getD k 0=x0 at *;generalize (Yd blk k).getD k1 0=x1 at *;generalize (Yd blk k).getD k9 0=x2 at *;generalize (Yd blk k).getD xB 0=x3 at *;generalize (Yd blk k).getD t 0=z at *;go_wp2
     go_region_held3 (fun w'=>w'.cell? ⟨w.heap.size+1+1,k1,none⟩=some (.int .u32 x1)∧w'.cell? ⟨w.heap.size+1+1,xB,none⟩=some (.int .u32 x3)) (first|assumption|(refine⟨?_,?_⟩ <;> first|assumption|(rw[Nn];assumption))) (fail)
     go_wp2
     go_region_held3 (fun w'=>w'.cell? ⟨w.heap.size+1+1,k,none⟩=some (.int .u32 x0)∧w'.cell? ⟨w.heap.size+1+1,k9,none⟩=some (.int .u32 x2)) (first|assumption|(refine⟨?_,?_⟩ <;> first|assumption|(rw[Nn];assumption)|(refine QjC ?_ ?_ <;> assumption))) (first|(go_at_call 197;refine(Oz _ _ _ (by decide) (by decide)).mono ?_;rintro e w' ⟨rfl,rfl⟩))
     go_wp2
     go_roundg (48 - (k+1))
     case rel =>
      go_light;refine⟨k+1,by omega,rfl,?_,?_⟩
      ·have:=HT.out;go_num
      rw[HV.out];exact HF.out _
     case measure=>go_light;omega
    ·obtain rfl:k=48:=by omega
     have xA:=Qaa blk 48;have xL:=hs.ws;rw[Qe6 xA] at xL;have xF:=hs.res;have xE:=hs.below;have hi:(prog.info? 167).map (·.size)=some (cW (Yd blk 48)).length:=by rw[Qo,xA];exact Qeg
     have xM:(prog.info? 167).map (·.size)=some (cW (Yd blk 48)).toArray.size:=by simpa using hi
     have xD:wr.there (w.heap.size+1) 0 (cW (Yd blk 48)).toArray.size:=by
      have xO:(cW (Yd blk 48)).toArray.size=64:=by simp[Qo,xA]
      rw[xO];exact xF
     clear hs hk hlt hl xA;generalize hE:Yd blk 48=ws at *;have HE:Hid (Yd blk 48=ws):=hE;clear hE
     go_wp2_with (first|(refine wpList_load_mid rfl 167 _ rfl (w.heap.size+1+1) 0 rfl (cW ws) _ xL underlying167 rfl hi ?_)|(refine wpList_store_mid rfl 167 _ _ rfl (w.heap.size+1) 0 (cW ws).toArray rfl rfl xD xM (all_oneCell_toArray (UC ws)) ?_))
     refine Lp (v := .agg (cW ws).toArray) ?_ rfl ⟨by rw[HE.out],?_⟩
     ·refine Yj results196 _ _ (w.heap.size+1) 0 (cW ws) (.array 64 112) ?_ ?_ underlying167 rfl hi
      ·rfl
      ·go_light
       simpa using World.rangeAt_setCells_same _ _ _ _ (by simpa using xD)
     ·go_light;exact Qs xE (by omega) _ _
structure S8 where
 a:Int
 b:Int
 c:Int
 d:Int
 e:Int
 f:Int
 g:Int
 h:Int
def oneI(e f g h r w:Int):Int :=
 IntKind.u32.wrap (IntKind.u32.wrap (IntKind.u32.wrap (IntKind.u32.wrap (h+bits .xor .u32 (bits .xor .u32 (UL e 6) (UL e 11)) (UL e 25))+bits .xor .u32 (bits .and .u32 e f) (bits .and .u32 (bits .xor .u32 IntKind.u32.max e) g))+r)+w)
def twoI(a b c:Int):Int :=
 IntKind.u32.wrap (bits .xor .u32 (bits .xor .u32 (UL a 2) (UL a 13)) (UL a 22)+bits .xor .u32 (bits .xor .u32 (bits .and .u32 a b) (bits .and .u32 a c)) (bits .and .u32 b c))
def S8.rnd(v:S8)(r w:Int):S8 :=
 { a:=IntKind.u32.wrap (oneI v.e v.f v.g v.h r w+twoI v.a v.b v.c),b:=v.a,c:=v.b,d:=v.c,e:=IntKind.u32.wrap (v.d+oneI v.e v.f v.g v.h r w),f:=v.e,g:=v.f,h:=v.g }
def rnds(v:S8)(rs ws:List Int):Nat->S8
 | 0=>v
 | k+1=>(rnds v rs ws k).rnd (rs.getD k 0) (ws.getD k 0)
def Uw(st:List Int):S8:=⟨st.getD 0 0,st.getD 1 0,st.getD 2 0,st.getD 3 0,st.getD 4 0,st.getD 5 0,st.getD 6 0,st.getD 7 0⟩
def sumI(s v:S8):List Int :=
 [IntKind.u32.wrap (s.a+v.a),IntKind.u32.wrap (s.b+v.b),IntKind.u32.wrap (s.c+v.c),IntKind.u32.wrap (s.d+v.d),IntKind.u32.wrap (s.e+v.e),IntKind.u32.wrap (s.f+v.f),IntKind.u32.wrap (s.g+v.g),IntKind.u32.wrap (s.h+v.h)]
def YT(rs st blk:List Int):List Int:=sumI (Uw st) (rnds (Uw st) rs (Yd blk 48) 64)
theorem QhN(rs st blk:List Int):(YT rs st blk).length=8:=rfl
theorem Qb3{st:List Int}(h:st.length=8) : ∃s0 s1 s2 s3 s4 s5 s6 s7,st=[s0,s1,s2,s3,s4,s5,s6,s7]:=by
 match st,h with
 | [s0,s1,s2,s3,s4,s5,s6,s7],_=>exact⟨s0,s1,s2,s3,s4,s5,s6,s7,rfl⟩
theorem QaC:(prog.info? 221).map (·.size)=some 64:=by kernel_rfl
theorem UM:(prog.info? 113).map (·.size)=some 8:=by kernel_rfl
structure Fo(w wr:World)(st ws rs:List Int)(N:Nat):Prop where
 below:Zb w wr
 st:wr.rangeAt w.heap.size 0 (cW st)
 res:wr.there (w.heap.size+1+1) 0 8
 ws:wr.rangeAt N 0 (cW ws)
 rs:wr.rangeAt 2 0 (cW rs)
theorem Fo.drew{w wr:World}{st ws rs:List Int}{N:Nat}(h:Fo w wr st ws rs N):Fo w wr.drew st ws rs N :=
 ⟨h.below.drew,by rw[World.rangeAt_drew];exact h.st,by rw[World.there_drew];exact h.res,by rw[World.rangeAt_drew];exact h.ws,by rw[World.rangeAt_drew];exact h.rs⟩
theorem Fo.start{w w':World}{st blk ws rs:List Int}{t1 t2 t3 t4:TypeId}{z:List Int}(hz:z.length=8){z2:Array Value}(hz2:z2.size=64)(hwl:ws.length=64)(hrl:rs.length=64)
  (hr:w.rangeAt 2 0 (cW rs))
  (hb:Below (((w.alloc (.cells (cW st).toArray t1)).alloc (.cells (cB blk).toArray t2)).alloc (.cells (cW z).toArray t3)).heap.size (((w.alloc (.cells (cW st).toArray t1)).alloc (.cells (cB blk).toArray t2)).alloc (.cells (cW z).toArray t3)) w') :
  Fo w ((w'.alloc (.cells z2 t4)).setCells w'.heap.size 0 (cW ws)) st ws rs w'.heap.size:=by
 have xB:2<w.heap.size:=QU hr (by intro h;have:=LU List.length h;simp[Qo,hrl] at this)
 have hN:w.heap.size+3<=w'.heap.size:=by have:=hb.size;simp at this;omega
 have xA:Zb w w':=((((Lb _ _).alloc (Ld _) _).alloc (by simp) _).alloc (by simp;omega) _).trans (hb.mono (by simp;omega))
 have h1:w'.rangeAt w.heap.size 0 (cW st):=Ql hb (by simp;omega) (World.rangeAt_alloc (World.rangeAt_alloc (Qu _ _ _) _) _)
 have h2:w'.there (w.heap.size+1+1) 0 8:=by
  have:=Qz ((w.alloc (.cells (cW st).toArray t1)).alloc (.cells (cB blk).toArray t2)) (cW z).toArray t3 8 (by simp[Qo,hz])
  simp only[World.size_alloc] at this;exact Ye hb (by simp) this
 have h3:w'.rangeAt 2 0 (cW rs):=Ql xA xB hr;refine⟨Qs (xA.alloc (by omega) _) (by omega) _ _,?_,?_,?_,?_⟩
 ·exact World.rangeAt_setCells_apart (World.rangeAt_alloc h1 _) _ _ _ (Or.inl (by omega))
 ·exact World.there_setCells (World.there_alloc h2 _) _ _ _
 ·exact World.rangeAt_setCells_same _ _ _ _ (Qz _ _ _ _ (by rw[Qo,hwl,hz2];exact Ld _))
 ·exact World.rangeAt_setCells_apart (World.rangeAt_alloc h3 _) _ _ _ (Or.inl (by omega))
theorem Oq(st:List Int)(hst:st.length=8)(blk:List Int)(hl:blk.length=64)(w:World)(rs:List Int)(hrl:rs.length=64)(hr:w.rangeAt 2 0 (cW rs)) :
  Zr 194 #[.agg (cW st).toArray,.agg (cB blk).toArray] w (.agg (cW (YT rs st blk)).toArray):=by
 obtain⟨s0,s1,s2,s3,s4,s5,s6,s7,rfl⟩:=Qb3 hst;clear hst;obtain⟨ws,xD⟩ : ∃ws,ws=Yd blk 48:=⟨_,rfl⟩;have xH:ws.length=64:=by rw[xD,Qaa]
 have xB:=fun w=>Qed blk hl w
 rw[<-xD] at xB;have HE:Hid (ws=Yd blk 48):=xD;clear xD;have xF:(prog.info? 221).map (·.size)=some (cB blk).length:=by rw[Qw,hl];exact QaC
 have xG:(prog.info? 167).map (·.size)=some (cW ws).toArray.size:=by rw[IM,Qo,xH];exact Qeg
 have xJ:(cW ws).toArray.size=64:=by simp[Qo,xH]
 have r1:=fun o=>World.rangeAt_alloc (Qu (w.alloc o) (cB blk) 221)
 simp only[World.size_alloc] at r1
 go_enter func194,ntmps194
 go_wp2_with (first|(refine wpList_load_mid rfl 221 _ rfl (w.heap.size+1) 0 rfl (cB blk) _ (r1 _ _) underlying221 rfl xF ?_)|(go_at_call 196;refine(xB _).mono ?_;rintro e w' ⟨rfl,xI⟩)|(refine wpList_store_mid rfl 167 _ _ rfl _ 0 (cW ws).toArray rfl rfl ?_ xG (all_oneCell_toArray (UC ws)) ?_;exact Qz _ _ _ _ (by rw[xJ];exact Ld 64)))
 go_simp
 have xA:=Fo.start (z:=[0,0,0,0,0,0,0,0]) (z2:=(cW (List.replicate 64 0)).toArray) (t4:=167) rfl rfl xH hrl hr xI;clear xI r1 xB;replace xA:Fo w ((w'.alloc (.cells #[.int .u32 0,.int .u32 0,.int .u32 0,.int .u32 0,.int .u32 0,.int .u32 0,.int .u32 0,.int .u32 0,.int .u32 0,.int .u32 0,.int .u32 0,.int .u32 0,.int .u32 0,.int .u32 0,.int .u32 0,.int .u32 0,.int .u32 0,.int .u32 0,.int .u32 0,.int .u32 0,.int .u32 0,.int .u32 0,.int .u32 0,.int .u32 0,.int .u32 0,.int .u32 0,.int .u32 0,.int .u32 0,.int .u32 0,.int .u32 0,.int .u32 0,.int .u32 0,.int .u32 0,.int .u32 0,.int .u32 0,.int .u32 0,.int .u32 0,.int .u32 0,.int .u32 0,.int .u32 0,.int .u32 0,.int .u32 0,.int .u32 0,.int .u32 0,.int .u32 0,.int .u32 0,.int .u32 0,.int .u32 0,.int .u32 0,.int .u32 0,.int .u32 0,.int .u32 0,.int .u32 0,.int .u32 0,.int .u32 0,.int .u32 0,.int .u32 0,.int .u32 0,.int .u32 0,.int .u32 0,.int .u32 0,.int .u32 0,.int .u32 0,.int .u32 0] 167)).setCells w'.heap.size 0 (cW ws)) [s0,s1,s2,s3,s4,s5,s6,s7] ws rs w'.heap.size:=xA;generalize ((w'.alloc (.cells #[.int .u32 0,.int .u32 0,.int .u32 0,.int .u32 0,.int .u32 0,.int .u32 0,.int .u32 0,.int .u32 0,.int .u32 0,.int .u32 0,.int .u32 0,.int .u32 0,.int .u32 0,.int .u32 0,.int .u32 0,.int .u32 0,.int .u32 0,.int .u32 0,.int .u32 0,.int .u32 0,.int .u32 0,.int .u32 0,.int .u32 0,.int .u32 0,.int .u32 0,.int .u32 0,.int .u32 0,.int .u32 0,.int .u32 0,.int .u32 0,.int .u32 0,.int .u32 0,.int .u32 0,.int .u32 0,.int .u32 0,.int .u32 0,.int .u32 0,.int .u32 0,.int .u32 0,.int .u32 0,.int .u32 0,.int .u32 0,.int .u32 0,.int .u32 0,.int .u32 0,.int .u32 0,.int .u32 0,.int .u32 0,.int .u32 0,.int .u32 0,.int .u32 0,.int .u32 0,.int .u32 0,.int .u32 0,.int .u32 0,.int .u32 0,.int .u32 0,.int .u32 0,.int .u32 0,.int .u32 0,.int .u32 0,.int .u32 0,.int .u32 0,.int .u32 0] 167)).setCells w'.heap.size 0 (cW ws))=W2 at *;generalize w'.heap.size=N at *;clear w';have c0:W2.cell? ⟨w.heap.size,0,none⟩=some (.int .u32 s0):=Qf xA.st (i:=0) (by simp)
 have c1:W2.cell? ⟨w.heap.size,1,none⟩=some (.int .u32 s1):=Qf xA.st (i:=1) (by simp)
 have c2:W2.cell? ⟨w.heap.size,2,none⟩=some (.int .u32 s2):=Qf xA.st (i:=2) (by simp)
 have c3:W2.cell? ⟨w.heap.size,3,none⟩=some (.int .u32 s3):=Qf xA.st (i:=3) (by simp)
 have c4:W2.cell? ⟨w.heap.size,4,none⟩=some (.int .u32 s4):=Qf xA.st (i:=4) (by simp)
 have c5:W2.cell? ⟨w.heap.size,5,none⟩=some (.int .u32 s5):=Qf xA.st (i:=5) (by simp)
 have c6:W2.cell? ⟨w.heap.size,6,none⟩=some (.int .u32 s6):=Qf xA.st (i:=6) (by simp)
 have c7:W2.cell? ⟨w.heap.size,7,none⟩=some (.int .u32 s7):=Qf xA.st (i:=7) (by simp)
 go_region_held3 (fun w'=>w'.cell? ⟨w.heap.size,0,none⟩=some (.int .u32 s0)∧w'.cell? ⟨w.heap.size,1,none⟩=some (.int .u32 s1)∧w'.cell? ⟨w.heap.size,2,none⟩=some (.int .u32 s2)∧w'.cell? ⟨w.heap.size,3,none⟩=some (.int .u32 s3)) (first|assumption|(refine⟨?_,?_,?_,?_⟩ <;> first|assumption|(rw[Nn];assumption))) (fail)
 go_wp2
 go_region_held3 (fun w'=>w'.cell? ⟨w.heap.size,4,none⟩=some (.int .u32 s4)∧w'.cell? ⟨w.heap.size,5,none⟩=some (.int .u32 s5)∧w'.cell? ⟨w.heap.size,6,none⟩=some (.int .u32 s6)∧w'.cell? ⟨w.heap.size,7,none⟩=some (.int .u32 s7)) (first|assumption|(refine⟨?_,?_,?_,?_⟩ <;> first|assumption|(rw[Nn];assumption))) (fail)
 clear c0 c1 c2 c3 c4 c5 c6 c7;go_wp2
 go_loopg [6,7,8,9,10,11,12,13,35] 64 (fun gk a b c d e f g h i wr => ∃(k:Nat) (v:S8),k<=64∧gk=64 - k∧i = .int .i64 k∧Hid (v=rnds (Uw [s0,s1,s2,s3,s4,s5,s6,s7]) rs ws k)∧a = .int .u32 v.a∧b = .int .u32 v.b∧c = .int .u32 v.c∧d = .int .u32 v.d∧e = .int .u32 v.e∧f = .int .u32 v.f∧g = .int .u32 v.g∧h = .int .u32 v.h∧Fo w wr [s0,s1,s2,s3,s4,s5,s6,s7] ws rs N)
 case atStart=>go_light;exact⟨0,Uw [s0,s1,s2,s3,s4,s5,s6,s7],Ll _,rfl,rfl,rfl,rfl,rfl,rfl,rfl,rfl,rfl,rfl,rfl,xA.drew.drew⟩
 case round =>
  clear xA;obtain⟨k,v,hk,rfl,rfl,hv,rfl,rfl,rfl,rfl,rfl,rfl,rfl,rfl,xA⟩:=hrel
  by_cases hlt:k<64
  ·have xK:(0:Int)<=(k:Int):=Lf _;have xL:(k:Int)<64:=by omega
   have cr:=Qf xA.rs (i:=k) (by omega)
   have cw:=Qf xA.ws (i:=k) (by omega)
   have HV:Hid (∀v',v'=v.rnd (rs.getD k 0) (ws.getD k 0)->v'=rnds (Uw [s0,s1,s2,s3,s4,s5,s6,s7]) rs ws (k+1)):=fun v' h=>by
    rw[h,show v=rnds (Uw [s0,s1,s2,s3,s4,s5,s6,s7]) rs ws k from hv];rfl
   have HF:Hid (Fo w wr.drew [s0,s1,s2,s3,s4,s5,s6,s7] ws rs N):=xA.drew;clear xA hv;generalize rs.getD k 0=r at *;generalize ws.getD k 0=x at *;obtain⟨a,b,c,d,e,f,g,h⟩:=v
   dsimp only at *
   go_wp2
   go_region_held3 (fun w'=>w'.cell? ⟨2,k,none⟩=some (.int .u32 r)∧w'.cell? ⟨N,k,none⟩=some (.int .u32 x)) (first|assumption|(refine⟨?_,?_⟩ <;> first|assumption|(rw[Nn];assumption))) (first|(go_at_call 197;refine(Oz _ _ _ (by decide) (by decide)).mono ?_;rintro e w' ⟨rfl,rfl⟩))
   go_wp2_with (go_at_call 197;refine(Oz _ _ _ (by decide) (by decide)).mono ?_;rintro e w' ⟨rfl,rfl⟩)
   go_roundg (64 - (k+1))
   case rel=>go_light;refine⟨k+1,_,by omega,rfl,by go_num,HV.out _ rfl,?_,rfl,rfl,rfl,?_,rfl,rfl,rfl,HF.out⟩ <;> simp only[S8.rnd,oneI,twoI,IntKind.wrap_u32']
   case measure=>go_light;omega
  ·obtain rfl:k=64:=by omega
   clear hk hlt;have c0:wr.cell? ⟨w.heap.size,0,none⟩=some (.int .u32 s0):=Qf xA.st (i:=0) (by simp)
   have c1:wr.cell? ⟨w.heap.size,1,none⟩=some (.int .u32 s1):=Qf xA.st (i:=1) (by simp)
   have c2:wr.cell? ⟨w.heap.size,2,none⟩=some (.int .u32 s2):=Qf xA.st (i:=2) (by simp)
   have c3:wr.cell? ⟨w.heap.size,3,none⟩=some (.int .u32 s3):=Qf xA.st (i:=3) (by simp)
   have c4:wr.cell? ⟨w.heap.size,4,none⟩=some (.int .u32 s4):=Qf xA.st (i:=4) (by simp)
   have c5:wr.cell? ⟨w.heap.size,5,none⟩=some (.int .u32 s5):=Qf xA.st (i:=5) (by simp)
   have c6:wr.cell? ⟨w.heap.size,6,none⟩=some (.int .u32 s6):=Qf xA.st (i:=6) (by simp)
   have c7:wr.cell? ⟨w.heap.size,7,none⟩=some (.int .u32 s7):=Qf xA.st (i:=7) (by simp)
   have xC:=xA.res;have xE:=xA.below;clear xA;have HV:Hid (YT rs [s0,s1,s2,s3,s4,s5,s6,s7] blk=sumI ⟨s0,s1,s2,s3,s4,s5,s6,s7⟩ v):=by
    show _=_
    rw[show v=_ from hv,show ws=_ from HE];rfl
   clear hv;obtain⟨a,b,c,d,e,f,g,h⟩:=v
   dsimp only at *
   go_wp2_with (refine wpList_store_mid rfl 113 _ _ rfl (w.heap.size+1+1) 0 (cW [_,_,_,_,_,_,_,_]).toArray rfl rfl xC UM (all_oneCell_toArray (UC _)) ?_)
   refine Lp (v := .agg (cW (sumI ⟨s0,s1,s2,s3,s4,s5,s6,s7⟩ ⟨a,b,c,d,e,f,g,h⟩)).toArray) ?_ rfl ⟨by rw[HV.out],?_⟩
   ·refine Yj results194 _ _ (w.heap.size+1+1) 0 (cW (sumI ⟨s0,s1,s2,s3,s4,s5,s6,s7⟩ ⟨a,b,c,d,e,f,g,h⟩)) (.array 8 112) ?_ ?_ underlying113 rfl UM
    ·rfl
    ·go_light;simp only[sumI,IntKind.wrap_u32'];exact World.rangeAt_setCells_same _ _ _ _ xC
   ·go_light;exact Qs xE (by omega) _ _
def U5(blk:List Int)(u:Nat):List Int:=(blk.set u 128).take (u+1)++List.replicate (64 - (u+1)) 0
def Y6(l:List Int)(b:Int):Nat->List Int
 | 0=>l
 | k+1=>(Y6 l b k).set (63 - k) (IntKind.u8.wrap (b / 2^(8*k)))
def Q9(rs st blk:List Int)(n:Nat):List Int :=
 if 55<n % 64 then YT rs (YT rs st (U5 blk (n % 64))) (Y6 (List.replicate 64 0) (IntKind.u64.wrap ((n:Int)*8)) 8)
 else YT rs st (Y6 (U5 blk (n % 64)) (IntKind.u64.wrap ((n:Int)*8)) 8)
theorem Qjh{blk:List Int}(h:blk.length=64){u:Nat}(hu:u<64):(U5 blk u).length=64:=by
 simp[U5,h];omega
theorem QbB(rs st blk:List Int)(n:Nat):(Q9 rs st blk n).length=8:=by
 unfold Q9;split <;> rfl
structure Hs(w:World)(p:Nat)(st blk:List Int)(n:Nat):Prop where
 stl:st.length=8
 blkl:blk.length=64
 st:w.rangeAt p 0 (cW st)
 blk:w.rangeAt p 8 (cB blk)
 len:w.cell? ⟨p,72,none⟩=some (.int .u64 n)
 there:w.there p 0 73
theorem Hs.lt{w:World}{p:Nat}{st blk:List Int}{n:Nat}(h:Hs w p st blk n):p<w.heap.size:=Lh _ _ h.len
theorem Hs.later{w w':World}{p B:Nat}{st blk:List Int}{n:Nat}(h:Hs w p st blk n)(hb:Below B w w')(hp:p<B):Hs w' p st blk n :=
 ⟨h.stl,h.blkl,Ql hb hp h.st,Ql hb hp h.blk,by rw[hb.cell (p:=⟨p,72,none⟩) hp];exact h.len,Ye hb hp h.there⟩
theorem Qf3{w:World}{b:Nat}{cs:List Value}(h:w.rangeAt b 0 cs)(k:Nat)(vs:List Value)(hk:k+vs.length=cs.length)(ht:w.there b k vs.length) :
  (w.setCells b k vs).rangeAt b 0 (cs.take k++vs):=fun j u hu=>by
 rw[Lr]
 by_cases hj:j<k
 ·rw[LL (by simp;omega),Nc,Lm hj] at hu
  rw[World.cell?_setCells_out b vs k w ⟨b,j,none⟩ (fun _ _=>Or.inl hj)]
  have:=h j u hu
  rwa [Lr] at this
 ·rw[LN (by simp;omega)] at hu
  have hlen:(cs.take k).length=k:=by simp;omega
  rw[hlen] at hu;have xA:j - k<vs.length:=(List.getElem?_eq_some_iff.1 hu).1
  have:=World.cell?_setCells_in b vs k w (fun i hi=>(ht i hi).1) (j - k) xA
  rw[show k+(j - k)=j by omega] at this
  rw[this,<-hu,Lc xA]
structure Cl(w wc:World)(st last:List Int)(bs bl:Nat):Prop where
 stl:st.length=8
 lastl:last.length=64
 below:Zb w wc
 hbs:w.heap.size+1<=bs
 hbl:w.heap.size+1<=bl
 ne:bs≠bl
 st:wc.rangeAt bs 0 (cW st)
 stt:wc.there bs 0 8
 last:wc.rangeAt bl 0 (cB last)
 lastt:wc.there bl 0 64
 res:wc.there w.heap.size 0 8
theorem Cl.one(w:World)(st blk:List Int)(hs:st.length=8)(hb:blk.length=64)(z:List Int)(hz:z.length=8)(z2:List Int)(hz2:z2.length=64)(t1 t2 t3:TypeId) :
  Cl w ((((w.alloc (.cells (cW z).toArray t1)).alloc (.cells (cW st).toArray t2)).alloc (.cells (cB z2).toArray t3)).drew.setCells (w.heap.size+1+1) 0 (cB blk)) st blk (w.heap.size+1) (w.heap.size+1+1):=by
 have r1:=Qu (w.alloc (.cells (cW z).toArray t1)) (cW st) t2;have q1:=Qz (w.alloc (.cells (cW z).toArray t1)) (cW st).toArray t2 8 (by simp[Qo,hs])
 have q2:=Qz ((w.alloc (.cells (cW z).toArray t1)).alloc (.cells (cW st).toArray t2)) (cB z2).toArray t3 64 (by simp[Qw,hz2])
 have q0:=Qz w (cW z).toArray t1 8 (by simp[Qo,hz])
 simp only[World.size_alloc] at r1 q1 q2 q0;refine⟨hs,hb,Qs ((((Lb _ _).alloc (Ld _) _).alloc (by simp) _).alloc (by simp;omega) _).drew (by omega) _ _,by omega,by omega,by omega,?_,?_,?_,?_,?_⟩
 ·exact World.rangeAt_setCells_apart (by rw[World.rangeAt_drew];exact World.rangeAt_alloc r1 _) _ _ _ (Or.inl (by omega))
 ·exact World.there_setCells (by rw[World.there_drew];exact World.there_alloc q1 _) _ _ _
 ·exact World.rangeAt_setCells_same _ _ _ _ (by rw[World.there_drew,Qw,hb];exact q2)
 ·exact World.there_setCells (by rw[World.there_drew];exact q2) _ _ _
 ·exact World.there_setCells (by rw[World.there_drew];exact World.there_alloc (World.there_alloc q0 _) _) _ _ _
theorem Cl.two(w:World)(st blk:List Int)(hs:st.length=8)(hb:blk.length=64)(z:List Int)(hz:z.length=8)(z2:List Int)(hz2:z2.length=64)(t1 t2 t3:TypeId) :
  Cl w ((((w.alloc (.cells (cW z).toArray t1)).alloc (.cells (cB z2).toArray t3)).alloc (.cells (cW st).toArray t2)).drew.setCells (w.heap.size+1) 0 (cB blk)) st blk (w.heap.size+1+1) (w.heap.size+1):=by
 have r1:=Qu ((w.alloc (.cells (cW z).toArray t1)).alloc (.cells (cB z2).toArray t3)) (cW st) t2;have q1:=Qz ((w.alloc (.cells (cW z).toArray t1)).alloc (.cells (cB z2).toArray t3)) (cW st).toArray t2 8 (by simp[Qo,hs])
 have q2:=Qz (w.alloc (.cells (cW z).toArray t1)) (cB z2).toArray t3 64 (by simp[Qw,hz2])
 have q0:=Qz w (cW z).toArray t1 8 (by simp[Qo,hz])
 simp only[World.size_alloc] at r1 q1 q2 q0;refine⟨hs,hb,Qs ((((Lb _ _).alloc (Ld _) _).alloc (by simp) _).alloc (by simp;omega) _).drew (by omega) _ _,by omega,by omega,by omega,?_,?_,?_,?_,?_⟩
 ·exact World.rangeAt_setCells_apart (by rw[World.rangeAt_drew];exact r1) _ _ _ (Or.inl (by omega))
 ·exact World.there_setCells (by rw[World.there_drew];exact q1) _ _ _
 ·exact World.rangeAt_setCells_same _ _ _ _ (by rw[World.there_drew,Qw,hb];exact World.there_alloc q2 _)
 ·exact World.there_setCells (by rw[World.there_drew];exact World.there_alloc q2 _) _ _ _
 ·exact World.there_setCells (by rw[World.there_drew];exact World.there_alloc (World.there_alloc q0 _) _) _ _ _
theorem Cl.set{w wc:World}{st last:List Int}{bs bl:Nat}(h:Cl w wc st last bs bl)(i:Nat)(v:Int):Cl w (wc.setCell ⟨bl,i,none⟩ (.int .u8 v)) st (last.set i v) bs bl:=by
 have xA:=h.hbl;refine⟨h.stl,by rw[I0];exact h.lastl,h.below.setCell (by show w.heap.size<=bl;omega) _,h.hbs,h.hbl,h.ne,Un h.st (Ne.symm h.ne) _,Yb h.stt _ _,?_,Yb h.lastt _ _,Yb h.res _ _⟩
 have:=UB h.last i (.int .u8 v)
 rwa [Lr,QfE] at this
theorem Cl.rest{w wc:World}{st last:List Int}{bs bl:Nat}(h:Cl w wc st last bs bl)(k:Nat)(hk:k<=64) :
  Cl w (wc.setCells bl k (List.replicate (64 - k) (.int .u8 0))) st (last.take k++List.replicate (64 - k) 0) bs bl:=by
 have xA:=h.hbl;have hl:=h.lastl;have e:(List.replicate (64 - k) (Value.int .u8 0))=cB (List.replicate (64 - k) 0):=by simp[cB]
 refine⟨h.stl,by simp[hl];omega,Qs h.below (by omega) _ _,h.hbs,h.hbl,h.ne,World.rangeAt_setCells_apart h.st _ _ _ (Or.inl h.ne),World.there_setCells h.stt _ _ _,?_,World.there_setCells h.lastt _ _ _,World.there_setCells h.res _ _ _⟩
 have:=Qf3 h.last k (List.replicate (64 - k) (Value.int .u8 0)) (by simp[Qw,hl];omega) (fun j hj=>by
  have:=h.lastt (k+j) (by simp at hj;omega)
  rwa [Lr] at this)
 rw[e] at this;rw[e]
 simpa [cB,List.map_take] using this
theorem Cl.later{w wc w':World}{st last:List Int}{bs bl:Nat}(h:Cl w wc st last bs bl)(hb:Zb wc w'):Cl w w' st last bs bl:=by
 have h1:=JV h.stt (by decide)
 have h2:=JV h.lastt (by decide)
 have h3:=JV h.res (by decide)
 exact⟨h.stl,h.lastl,h.below.trans (hb.mono (by omega)),h.hbs,h.hbl,h.ne,Ql hb h1 h.st,Ye hb h1 h.stt,Ql hb h2 h.last,Ye hb h2 h.lastt,Ye hb h3 h.res⟩
theorem Cl.storeSt{w wc:World}{st last:List Int}{bs bl:Nat}(h:Cl w wc st last bs bl)(st':List Int)(hs:st'.length=8):Cl w (wc.setCells bs 0 (cW st')) st' last bs bl:=by
 have xA:=h.hbs;exact⟨hs,h.lastl,Qs h.below (by omega) _ _,h.hbs,h.hbl,h.ne,World.rangeAt_setCells_same _ _ _ _ (by rw[Qo,hs];exact h.stt),World.there_setCells h.stt _ _ _,World.rangeAt_setCells_apart h.last _ _ _ (Or.inl (Ne.symm h.ne)),World.there_setCells h.lastt _ _ _,World.there_setCells h.res _ _ _⟩
theorem Cl.storeLast{w wc:World}{st last:List Int}{bs bl:Nat}(h:Cl w wc st last bs bl)(l':List Int)(hs:l'.length=64):Cl w (wc.setCells bl 0 (cB l')) st l' bs bl:=by
 have xA:=h.hbl;exact⟨h.stl,hs,Qs h.below (by omega) _ _,h.hbs,h.hbl,h.ne,World.rangeAt_setCells_apart h.st _ _ _ (Or.inl h.ne),World.there_setCells h.stt _ _ _,World.rangeAt_setCells_same _ _ _ _ (by rw[Qw,hs];exact h.lastt),World.there_setCells h.lastt _ _ _,World.there_setCells h.res _ _ _⟩
end Go.Proofs.YtdocjikpcbmcgaaGreatDoor
