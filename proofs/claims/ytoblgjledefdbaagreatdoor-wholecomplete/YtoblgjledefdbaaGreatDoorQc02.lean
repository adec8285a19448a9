/- Own work. -/
import Derived.Deep.Onto
import Derived.Laws.AppendOwnNone
import Derived.Handy
import Derived.Test.YtoblgjledefdbaaGreatDoorRows
import Derived.Test.YtoblgjledefdbaaGreatDoorQc01
set_option maxRecDepth 100000
set_option maxHeartbeats 2000000
namespace Go.Proofs.YtoblgjledefdbaaGreatDoor
open Go.RowKit
attribute [local go_sem ↓] Go.wp_at_zero Go.wp_at_succ
open Go.Proofs.Tryz
def IV:List Int:=[1779033703,3144134277,1013904242,2773480762,1359893119,2600822924,528734635,1541459225]
theorem QcZ(w:World) :
  Calls prog 360 #[] w fun e w'=>e= .returned (Pq w.heap.size)∧w'=w.alloc (.cells ((cW IV++cB (List.replicate 64 0))++[Value.int .u64 0]).toArray 428):=by
 have hz:∀w':World,(zeroValue 428).run prog w'= .ok (.agg #[.int .u32 0,.int .u32 0,.int .u32 0,.int .u32 0,.int .u32 0,.int .u32 0,.int .u32 0,.int .u32 0,.int .u8 0,.int .u8 0,.int .u8 0,.int .u8 0,.int .u8 0,.int .u8 0,.int .u8 0,.int .u8 0,.int .u8 0,.int .u8 0,.int .u8 0,.int .u8 0,.int .u8 0,.int .u8 0,.int .u8 0,.int .u8 0,.int .u8 0,.int .u8 0,.int .u8 0,.int .u8 0,.int .u8 0,.int .u8 0,.int .u8 0,.int .u8 0,.int .u8 0,.int .u8 0,.int .u8 0,.int .u8 0,.int .u8 0,.int .u8 0,.int .u8 0,.int .u8 0,.int .u8 0,.int .u8 0,.int .u8 0,.int .u8 0,.int .u8 0,.int .u8 0,.int .u8 0,.int .u8 0,.int .u8 0,.int .u8 0,.int .u8 0,.int .u8 0,.int .u8 0,.int .u8 0,.int .u8 0,.int .u8 0,.int .u8 0,.int .u8 0,.int .u8 0,.int .u8 0,.int .u8 0,.int .u8 0,.int .u8 0,.int .u8 0,.int .u8 0,.int .u8 0,.int .u8 0,.int .u8 0,.int .u8 0,.int .u8 0,.int .u8 0,.int .u8 0,.int .u64 0]) w':=fun w'=>by kernel_rfl
 go_enter func360,ntmps360;go_wp2
 go_ret
 exact⟨rfl,rfl⟩
theorem Qpw(H:List Int)(hl:H.length=8)(k:Nat)(hk:k<8)(w:World):(Instr.index 346 (.agg (cW H).toArray) (.int .i64 k)).run prog w= .ok (.int .u32 (H.getD k 0)) w:=by
 obtain⟨s0,s1,s2,s3,s4,s5,s6,s7,rfl⟩:=Qbs hl;obtain rfl|rfl|rfl|rfl|rfl|rfl|rfl|rfl:k=0∨k=1∨k=2∨k=3∨k=4∨k=5∨k=6∨k=7:=by omega
 all_goals kernel_rfl
def w4(x:Int):List Int:=[IntKind.u8.wrap (x/16777216),IntKind.u8.wrap (x/65536),IntKind.u8.wrap (x/256),IntKind.u8.wrap x]
def UV(H:List Int):Nat->List Int
 | 0=>[]
 | k+1=>UV H k++w4 (H.getD k 0)
def UX(l:List Int):List Int:=l++List.replicate (32-l.length) 0
theorem Qby(H:List Int)(k:Nat):(UV H k).length=4*k:=by
 induction k with
 | zero=>rfl
 | succ k ih=>simp only[UV,List.length_append,ih,w4,List.length_cons,List.length_nil];omega
theorem Qh6{l:List Int}(h:l.length<=32):(UX l).length=32:=by simp[UX];omega
theorem QfK{l:List Int}(h:l.length=32):UX l=l:=by simp[UX,h]
theorem Qh7{l:List Int}(h:l.length<32)(v:Int):(UX l).set l.length v=UX (l++[v]):=by
 unfold UX;rw[Nf _ _ (La _)];obtain⟨n,hn⟩:∃n,32-l.length=n+1:=⟨32-l.length-1,by omega⟩
 have hn':32-(l++[v]).length=n:=by simp;omega
 rw[hn,hn',I1];simp
structure Su(w wr:World)(l:List Int):Prop where
 below:Below w.heap.size w wr
 out:wr.rangeAt w.heap.size 0 (cB (UX l))
 outt:wr.there w.heap.size 0 32
theorem Su.step{w wr:World}{l:List Int}(h:Su w wr l){m:Nat}(hm:l.length=m)(hl:m<32)(v:Int):Su w (wr.setCell ⟨w.heap.size,m,none⟩ (.int .u8 v)) (l++[v]):=by
 subst hm;refine⟨h.below.setCell (La _) _,?_,QM h.outt _ _⟩
 have:=YG h.out l.length (.int .u8 v)
 rwa [Lo,Qfd,Qh7 hl] at this
def Q4(l:List Int):BA:=l.foldl (fun r n=>r.push (UInt8.ofNat n.toNat)) ByteArray.empty
theorem Qa6(w:World)(b:Nat)(l:List Int)(n:Nat)(hl:l.length=n)(h:w.rangeAt b 0 (cB l)):(convert 127 9 (.slice (Zp b) n n)).run prog w= .ok (.string (Q4 l)) w:=by
 subst hl;rw[run_convert_bytes_string w 127 9 5 _ _ _ underlying127 underlying5 underlying9];refine run_bytesToString w ⟨b,0,none⟩ l.length l.length l ?_
 have:=run_loadCells_list (P:=prog) w ⟨b,0,none⟩ (cB l) (fun j v hv=>by rw[Addr.add_mid];exact h j v hv)
 rwa [Qu] at this
theorem Qal{w:World}{b i j:Nat}{v u:Value}(h:w.cell? ⟨b,i,none⟩=some u)(hne:i≠j):(w.setCell ⟨b,j,none⟩ v).cell? ⟨b,i,none⟩=some u:=by
 rw[Lq _ _ _ _ (fun e=>hne (by have:=LW Addr.off e;simpa using this.symm))];exact h
theorem Qnv(w:World)(p:Nat)(st blk:List Int)(n:Nat)(hh:Hs w p st blk n)(rs:List Int)(hrl:rs.length=64)(hr:w.rangeAt 3 0 (cW rs)) :
  Calls prog 362 #[Pq p] w fun e w'=>e= .returned (.string (Q4 (UV (Q7 rs st blk n) 8)))∧Below w.heap.size w w':=by
 obtain⟨H,hH⟩:∃H,H=Q7 rs st blk n:=⟨_,rfl⟩;have hHl:H.length=8:=by rw[hH];exact Qa4 _ _ _ _
 have hcl:=fun(w':World) (h:Hs w' p st blk n) (h2:w'.rangeAt 3 0 (cW rs))=>closed_any w' p st blk n h rs hrl h2
 rw[<-hH] at hcl;have HE:Hid (H=Q7 rs st blk n):=hH;clear hH;have hlt:p<w.heap.size:=hh.lt;have h1w:3<w.heap.size:=QI hr (by intro h;have:=LW List.length h;simp[Qn,hrl] at this)
 have hA:∀o,Hs (w.alloc o) p st blk n:=fun o=>hh.later ((Lb w.heap.size w).alloc (La _) o) hlt
 have hR:∀o,(w.alloc o).rangeAt 3 0 (cW rs):=fun o=>World.rangeAt_alloc hr o
 go_enter func362,ntmps362
 go_wp2_with (go_at_call 405;refine(hcl _ (hA _) (hR _)).mono ?_;rintro e w' ⟨rfl,hbw⟩)
 have hS:Su w w' []:=by
  have q:=Qo w (cB (List.replicate 32 0)).toArray 430 32 (by simp[Qu])
  have r:=Qp w (cB (List.replicate 32 0)) 430;exact⟨((Lb _ _).alloc (La _) _).trans (hbw.mono (by simp)),Qm hbw (by simp) r,Q3 hbw (by simp) q⟩
 clear hbw hcl hA hR
 go_loopg [8] 8 (fun g i wr=> ∃k:Nat,k<=8∧g=8-k∧i= .int .i64 k∧Su w wr (UV H k))
 case atStart=>go_light;exact⟨0,Ln _,rfl,rfl,hS⟩
 case round=>
  clear hS;obtain⟨k,hk,rfl,rfl,hs⟩:=hrel
  by_cases hlt:k<8
  ·have hk0:(0:Int)<=(k:Int):=Lh _;have hk8:(k:Int)<8:=by omega
   have hidx:=fun w'=>Qpw H hHl k hlt w'
   obtain⟨m,hm⟩:∃m:Nat,4*k=m:=⟨_,rfl⟩;obtain⟨m1,hm1⟩:∃m1:Nat,m+1=m1:=⟨_,rfl⟩;obtain⟨m2,hm2⟩:∃m2:Nat,m+2=m2:=⟨_,rfl⟩;obtain⟨m3,hm3⟩:∃m3:Nat,m+3=m3:=⟨_,rfl⟩;have e0:4*(k:Int)=(m:Int):=by omega
   have e1:(m:Int)+1=(m1:Int):=by omega
   have e2:(m:Int)+2=(m2:Int):=by omega
   have e3:(m:Int)+3=(m3:Int):=by omega
   have b0:(0:Int)<=(m:Int):=Lh _;have b1:(0:Int)<=(m1:Int):=Lh _;have b2:(0:Int)<=(m2:Int):=Lh _;have b3:(0:Int)<=(m3:Int):=Lh _;have d0:(m:Int)<32:=by omega
   have d1:(m1:Int)<32:=by omega
   have d2:(m2:Int)<32:=by omega
   have d3:(m3:Int)<32:=by omega
   have hol:=Qby H k;have hpl:(UX (UV H k)).length=32:=Qh6 (by omega)
   have c0:=Ym hs.out (i:=m) (by omega)
   have c1:=Ym hs.out (i:=m1) (by omega)
   have c2:=Ym hs.out (i:=m2) (by omega)
   have c3:=Ym hs.out (i:=m3) (by omega)
   have f0:wr.frozen? ⟨w.heap.size,m,none⟩=false:=by have:=(hs.outt m (by omega)).2;rwa [Lo] at this
   have f1:wr.frozen? ⟨w.heap.size,m1,none⟩=false:=by have:=(hs.outt m1 (by omega)).2;rwa [Lo] at this
   have f2:wr.frozen? ⟨w.heap.size,m2,none⟩=false:=by have:=(hs.outt m2 (by omega)).2;rwa [Lo] at this
   have f3:wr.frozen? ⟨w.heap.size,m3,none⟩=false:=by have:=(hs.outt m3 (by omega)).2;rwa [Lo] at this
   have c1':=fun v=>Qal (v:=v) c1 (show m1≠m by omega)
   have c2':=fun v v'=>Qal (v:=v') (Qal (v:=v) c2 (show m2≠m by omega)) (show m2≠m1 by omega)
   have c3':=fun v v' v''=>Qal (v:=v'') (Qal (v:=v') (Qal (v:=v) c3 (show m3≠m by omega)) (show m3≠m1 by omega)) (show m3≠m2 by omega)
   have HF:Hid (∀x0 x1 x2 x3,Su w ((((wr.setCell ⟨w.heap.size,m,none⟩ (.int .u8 x0)).setCell ⟨w.heap.size,m1,none⟩ (.int .u8 x1)).setCell ⟨w.heap.size,m2,none⟩ (.int .u8 x2)).setCell ⟨w.heap.size,m3,none⟩ (.int .u8 x3)) (UV H k++[x0,x1,x2,x3])):=fun x0 x1 x2 x3=>by
    have:=(((hs.step (m:=m) (by omega) (by omega) x0).step (m:=m1) (by simp;omega) (by omega) x1).step (m:=m2) (by simp;omega) (by omega) x2).step (m:=m3) (by simp;omega) (by omega) x3
    simpa using this
   clear hs hm hm1 hm2 hm3 c1 c2 c3 hol hpl;generalize (UX (UV H k)).getD m 0=z0 at *;generalize (UX (UV H k)).getD m1 0=z1 at *;generalize (UX (UV H k)).getD m2 0=z2 at *;generalize (UX (UV H k)).getD m3 0=z3 at *;generalize hx:H.getD k 0=x at *;have HX:Hid (H.getD k 0=x):=hx;clear hx;go_wp2
   go_roundg (8-(k+1))
   case rel=>
    go_light;refine⟨k+1,by omega,rfl,by go_num,?_⟩
    rw[UV,HX.out];exact HF.out _ _ _ _
   case measure=>go_light;omega
  ·obtain rfl:k=8:=by omega
   have hol:=Qby H 8;have hrg:=hs.out;rw[QfK hol] at hrg;have hcv:=Qa6 wr w.heap.size (UV H 8) 32 hol hrg;have HB:Hid (Below w.heap.size w wr):=hs.below;have HO:Hid (UV H 8=UV (Q7 rs st blk n) 8):=by rw[HE.out];exact rfl
   clear hs hrg hol;generalize UV H 8=l at *;go_wp2
   go_ret
   exact⟨by rw[<-HO.out];rfl,HB.out⟩
theorem QcF{blk:List Int}(h:blk.length=64){u:Nat}(hu:u<64):Jm blk u=(blk.take u++[128])++List.replicate (64-(u+1)) 0:=by
 unfold Jm
 congr 1
 apply List.ext_getElem?
 intro i
 by_cases hi:i<u
 ·rw[Nb,Lm (by omega),IF (by omega),LE (by simp;omega),Nb,Lm hi]
 ·by_cases hi2:i=u
  ·subst hi2;rw[Nb,Lm (by omega),List.getElem?_set_self (by omega),LQ (by simp;omega)]
   have:(blk.take i).length=i:=by simp;omega
   rw[this,NH];rfl
  ·rw[Nb,Ld (by omega),NQ]
   simp;omega
theorem Qcz{rs st blk blk':List Int}{n:Nat}(h:blk.length=64)(h':blk'.length=64)(he:blk.take (n%64)=blk'.take (n%64)):Q7 rs st blk n=Q7 rs st blk' n:=by
 have:Jm blk (n%64)=Jm blk' (n%64):=by rw[QcF h (Iu _ (by decide)),QcF h' (Iu _ (by decide)),he]
 unfold Q7;rw[this]
def shaT(rs t:List Int):List Int:=UV (Q7 rs (stN rs IV t (t.length/64)) (pad (t.drop (64*(t.length/64)))) t.length) 8
def O1(rs t:List Int):BA:=Q4 (shaT rs t)
theorem Qnw(w:World)(p:Nat)(rs t:List Int)(hh:Hst w p rs IV t)(hrl:rs.length=64)(hr:w.rangeAt 3 0 (cW rs)) :
  Calls prog 362 #[Pq p] w fun e w'=>e= .returned (.string (O1 rs t))∧Below w.heap.size w w':=by
 obtain⟨st,blk,h1,h2,h3⟩:=hh;refine(Qnv w p st blk t.length h1 rs hrl hr).mono fun e w' ⟨he,hb⟩=>⟨?_,hb⟩
 have hd:(t.drop (64*(t.length/64))).length=t.length%64:=by rw[LS];omega
 have e:Q7 rs st blk t.length=Q7 rs (stN rs IV t (t.length/64)) (pad (t.drop (64*(t.length/64)))) t.length:=by
  rw[<-h2];refine Qcz h1.blkl (Ud (by omega)) ?_
  rw[h3,pad,LG (by omega),Lr (by omega)]
 rw[he,O1,shaT,e]
theorem QmK(w:World)(rs:List Int):Hst (w.alloc (.cells ((cW IV++cB (List.replicate 64 0))++[Value.int .u64 0]).toArray 428)) w.heap.size rs IV []:=by
 have r:=Qp w ((cW IV++cB (List.replicate 64 0))++[Value.int .u64 0]) 428;have q:=Qo w ((cW IV++cB (List.replicate 64 0))++[Value.int .u64 0]).toArray 428 73 (by simp[Qn,Qu,IV])
 refine⟨IV,List.replicate 64 0,⟨rfl,by simp,?_,?_,?_,q⟩,rfl,rfl⟩
 ·intro j v hv;have hj:j<8:=(List.getElem?_eq_some_iff.1 hv).1
  exact r j v (by rw[LE (by simp[Qn,Qu,IV];omega),LE (by simp[Qn,IV];omega)];exact hv)
 ·intro j v hv;have hj:j<64:=by have:=(List.getElem?_eq_some_iff.1 hv).1;simpa [Qu] using this
  have:=r (8+j) v (by rw[LE (by simp[Qn,Qu,IV];omega),LQ (by simp[Qn,IV])];simpa [Qn,IV] using hv)
  rwa [Lo] at this
 ·exact r 72 _ rfl
def QcY:Obj := .cells ((cW IV++cB (List.replicate 64 0))++[Value.int .u64 0]).toArray 428
theorem QmL(w:World):Calls prog 360 #[] w fun e w'=>e= .returned (Pq w.heap.size)∧w'=w.alloc QcY:=QcZ w
def Qk(ss:LB):List Int:=(ss.map tB).flatten
theorem UP(ss:LB)(k:Nat)(hk:k<ss.length):Qk (ss.take (k+1))=Qk (ss.take k)++tB (ss.getD k ByteArray.empty):=by
 have e:ss.getD k ByteArray.empty=ss[k]:=by rw[Lc,Ll hk];rfl
 unfold Qk;rw[L4 hk,LL,N4,e];simp only[List.map_cons,List.map_nil,List.flatten_cons,List.flatten_nil,List.append_nil]
theorem OB(ss:LB)(k:Nat):(Qk (ss.take k)).length<=(Qk ss).length:=by
 have:Qk ss=Qk (ss.take k)++Qk (ss.drop k):=by
  unfold Qk;rw[<-N4,<-LL,NA]
 rw[this,Le];omega
theorem Qc5(w:World)(ao:OA)(b off len cap:Nat)(ss:LB)(hl:ss.length=len)(hao:0<len->ao=some ⟨b,off,none⟩)(hs:w.rangeAt b off (ss.map Value.string))
  (hmx:len<=9223372036854775807) (rs:List Int) (hrl:rs.length=64) (hr:w.rangeAt 3 0 (cW rs)) (hlen:(Qk ss).length<4611686018427387904) :
  Calls prog 278 #[.slice ao len cap] w fun e w'=>e= .returned (.string (O1 rs (Qk ss)))∧Below w.heap.size w w':=by
 have h1w:3<w.heap.size:=QI hr (by intro h;have:=LW List.length h;simp[Qn,hrl] at this)
 have hn0:Hst (w.alloc QcY) w.heap.size rs IV []:=QmK w rs;have hb0:Below w.heap.size w (w.alloc QcY):=(Lb _ _).alloc (La _) _
 go_enter func278,ntmps278
 go_wp2_with (go_at_call 360;refine(QmL _).mono ?_;rintro e w' ⟨rfl,rfl⟩)
 generalize w.alloc QcY=w1 at *
 go_loopg [9] len (fun g i wr=> ∃k:Nat,k<=len∧g=len-k∧i= .int .i64 k∧Hst wr w.heap.size rs IV (Qk (ss.take k))∧Below w.heap.size w wr)
 case atStart=>go_light;exact⟨0,Ln _,rfl,rfl,hn0,hb0⟩
 case round=>
  clear hn0 hb0;obtain⟨k,hk,rfl,rfl,hh,hb⟩:=hrel;have hrr:wr.rangeAt 3 0 (cW rs):=Qm hb h1w hr
  by_cases hlt:k<len
  ·obtain rfl:=hao (by omega)
   have hk':k<ss.length:=by omega
   have hbl:b<w.heap.size:=QI hs (by intro h;have:=LW List.length h;rw[LC,N9] at this;omega)
   have ck:wr.cell? ⟨b,off+k,none⟩=some (.string (ss.getD k ByteArray.empty)):=by
    rw[hb.cell (p:=⟨b,off+k,none⟩) hbl];exact hs k _ (by simp[List.getElem?_eq_getElem hk',List.getD_eq_getElem?_getD])
   have hz:(k:Int)<(len:Int):=by omega
   have hsz:(Qk (ss.take (k+1))).length<=(Qk ss).length:=OB _ _;have hfs:=UP ss k hk';have hln:(Qk (ss.take k)).length+(ss.getD k ByteArray.empty).size<4611686018427387904:=by
    rw[hfs,Le,Yq] at hsz;omega
   have hw:=Qax wr w.heap.size rs IV (Qk (ss.take k)) (ss.getD k ByteArray.empty) hrl hrr hh hln;rw[<-hfs] at hw;have HB:Hid (Below w.heap.size w wr):=hb;have HZ:Hid (w.heap.size<=wr.heap.size):=hb.size;clear hfs hsz hln hh hb hs hao;generalize ss.getD k ByteArray.empty=part at *
   go_wp2_with (go_at_call 361;refine hw.mono ?_;rintro e w' ⟨rfl,hh',hg'⟩)
   go_roundg (len-(k+1))
   case rel=>go_light;exact⟨k+1,by omega,rfl,by go_num,hh',HB.out.grown hg' HZ.out (fun j hj=>by cases hj;exact La _)⟩
   case measure=>go_light;omega
  ·obtain rfl:k=len:=by omega
   have hz:¬(k:Int)<(k:Int):=by omega
   have hsum:=Qnw wr w.heap.size rs _ hh hrl hrr;rw[Lr (by omega)] at hsum
   have HB:Hid (Below w.heap.size w wr):=hb;have HZ:Hid (w.heap.size<=wr.heap.size):=hb.size;clear hh hb
   go_wp2_with (go_at_call 362;refine hsum.mono ?_;rintro e w' ⟨rfl,hb'⟩)
   go_ret
   exact⟨rfl,HB.out.trans (hb'.mono HZ.out)⟩
def RS:List Int:=[1116352408,1899447441,3049323471,3921009573,961987163,1508970993,2453635748,2870763221,3624381080,310598401,607225278,1426881987,1925078388,2162078206,2614888103,3248222580,3835390401,4022224774,264347078,604807628,770255983,1249150122,1555081692,1996064986,2554220882,2821834349,2952996808,3210313671,3336571891,3584528711,113926993,338241895,666307205,773529912,1294757372,1396182291,1695183700,1986661051,2177026350,2456956037,2730485921,2820302411,3259730800,3345764771,3516065817,3600352804,4094571909,275423344,430227734,506948616,659060556,883997877,958139571,1322822218,1537002063,1747873779,1955562222,2024104815,2227730452,2361852424,2428436474,2756734187,3204031479,3329325298]
theorem J4:RS.length=64:=rfl
theorem Qa{w W w2:World}(h:Below w.heap.size w W)(h2:Below W.heap.size W w2):Below w.heap.size w w2:=h.trans (h2.mono h.size)
theorem bal{w W:World}(h:Below w.heap.size w W)(o:Obj):Below w.heap.size w (W.alloc o):=h.alloc h.size o
theorem Qi{B:Nat}{a w:World}(h:Below B a w)(n:Nat):Below B a (w.drewN n):=⟨h.os,h.tape,h.output,h.size,h.block⟩
theorem QdS{l:List Int}(h:0<l.length):cW l≠[]:=by
 intro e;have:=LW List.length e;rw[Qn,N9] at this;omega
structure Tb(w:World):Prop where
 rs:w.rangeAt 3 0 (cW RS)
theorem Tb.next{w W:World}(h:Tb w)(hb:Below w.heap.size w W):Tb W :=
 ⟨Qm hb (QI h.rs (QdS (by rw[J4];decide))) h.rs⟩
def clk(k:Int):Nat:=if k<1 then 1 else if 32<k then 32 else k.toNat
theorem Qop(k:Int):1<=clk k:=by
 unfold clk
 split
 ·omega
 ·split <;> omega
theorem Qs(k:Int):clk k<=32:=by
 unfold clk
 split
 ·omega
 ·split <;> omega
theorem QdO(w:World)(k:Int)(x:Int)(hx:(clk k:Int)=x) :
  Calls prog 279 #[.int .i64 k] w fun e w'=>e= .returned (.int .i64 x)∧w'=w:=by
 subst hx;unfold clk
 go_enter func279,ntmps279
 by_cases h1:k<1
 ·have e1:¬(1<=k):=by omega
  rw[Lm h1];clear h1;go_wp2
  go_ret
  simp
 ·by_cases h2:32<k
  ·have e1:1<=k:=by omega
   have e2:¬(k<=32):=by omega
   rw[Ld h1,Lm h2];clear h1 h2;go_wp2
   go_ret
   simp
  ·have e1:1<=k:=by omega
   have e2:k<=32:=by omega
   have e3:(k.toNat:Int)=k:=by omega
   rw[Ld h1,Ld h2,e3];clear h1 h2;go_wp2
   go_ret
   simp
theorem YY(x:Int):(Q4 [x]).size=1:=rfl
theorem Jr(w:World)(x:Int):(convert 127 9 (.slice (Zp w.heap.size) 1 1)).run prog (w.alloc (.cells #[.int .u8 x] 5))= .ok (.string (Q4 [x])) (w.alloc (.cells #[.int .u8 x] 5)) :=
 Qa6 _ _ [x] 1 rfl (Qp w (cB [x]) 5)
theorem Qcr(l:List Int):(Q4 l).size=l.length:=by
 have:∀(l:List Int) (r:BA),(l.foldl (fun r n=>r.push (UInt8.ofNat n.toNat)) r).size=r.size+l.length:=by
  intro l
  induction l with
  | nil=>intro r;rfl
  | cons x t ih=>intro r;rw[List.foldl_cons,ih,ByteArray.size_push,LD];omega
 rw[Q4,this];simp
theorem Qau(rs t:List Int):(O1 rs t).size=32:=by rw[O1,Qcr,shaT,Qby]
def Yx(s:BA):BA:=Q4 [0]++s
def Qz(a b:BA):BA:=(Q4 [1]++a)++b
def bagT(a b:BA):BA:=(Q4 [2]++a)++b
theorem Qbq(s:BA):(Yx s).size=1+s.size:=by rw[Yx,NG,YY]
theorem Qbv(a b:BA):(Qz a b).size=1+a.size+b.size:=by rw[Qz,NG,NG,YY]
theorem Qb0(a b:BA):(bagT a b).size=1+a.size+b.size:=by rw[bagT,NG,NG,YY]
def dg(c:Nat)(t:BA):BA:=(O1 RS (tB t)).extract 0 c
theorem Ys{c:Nat}(hc:c<=32)(t:BA):(dg c t).size=c:=by
 rw[dg,ByteArray.size_extract,Qau];omega
theorem Qnm(w:World)(ht:Tb w)(t:BA)(hs:t.size<4611686018427387904) :
  Calls prog 278 #[.slice (Zp w.heap.size) 1 1] (w.alloc (.cells #[.string t] 9)) fun e w'=>e= .returned (.string (O1 RS (tB t)))∧Below w.heap.size w w':=by
 have e:Qk [t]=tB t:=by simp[Qk]
 refine(Qc5 _ (Zp w.heap.size) w.heap.size 0 1 1 [t] rfl (fun _=>rfl) (Qp w [.string t] 9) (by decide) RS J4 (World.rangeAt_alloc ht.rs _) (by rw[e,Yq];exact hs)).mono fun e' w' ⟨he,hb'⟩=>⟨?_,?_⟩
 ·rw[he,e]
 ·exact((Lb _ _).alloc (La _) _).trans (hb'.mono (by simp))
theorem QaO(w:World)(ht:Tb w)(k:Int)(t:BA)(hs:t.size<4611686018427387904)(r:BA)(hr:dg (clk k) t=r) :
  Calls prog 183 #[.int .i64 k,.string t] w fun e w'=>e= .returned (.string r)∧Below w.heap.size w w':=by
 subst hr;have HS:=Qnm w ht t hs;unfold dg;have hz:=Qau RS (tB t);generalize O1 RS (tB t)=z at *;have c1:=Qop k;have c2:=Qs k;have HC:=fun W=>QdO W k (clk k) rfl
 generalize clk k=c at *;have h1:(0:Int)<=(c:Int):=by omega
 have h2:(c:Int)<=32:=by omega
 clear ht hs c1
 go_enter func183,ntmps183
 go_wp2_with (first
  | (go_at_call 278;with_reducible refine HS.mono ?_;rintro e w1 ⟨rfl,hb1⟩)
  | (go_at_call 279;with_reducible refine(HC _).mono ?_;rintro e w2 ⟨rfl,rfl⟩))
 go_ret
 exact⟨rfl,hb1⟩
theorem QhP(w:World)(s:BA)(hs:s.size<2305843009213693952) :
  Calls prog 232 #[.string s] w fun e w'=>e= .returned (.string (Yx s))∧Below w.heap.size w w':=by
 have cv:=Jr w 0;unfold Yx;have hz:=YY 0;generalize Q4 [0]=z at *;have hns:¬(9223372036854775807<1+s.size):=by omega
 go_enter func232,ntmps232;go_wp2
 go_ret
 exact⟨rfl,bal (Lb _ _) _⟩
theorem QhV(w:World)(a b:BA)(hs:a.size<2305843009213693952)(hs2:b.size<2305843009213693952) :
  Calls prog 319 #[.string a,.string b] w fun e w'=>e= .returned (.string (Qz a b))∧Below w.heap.size w w':=by
 have cv:=Jr w 1;unfold Qz;have hz:=YY 1;generalize Q4 [1]=z at *;have hns:¬(9223372036854775807<1+a.size):=by omega
 have hns2:¬(9223372036854775807<1+a.size+b.size):=by omega
 go_enter func319,ntmps319;go_wp2
 go_ret
 exact⟨rfl,bal (Lb _ _) _⟩
theorem QiI(w:World)(a b:BA)(hs:a.size<2305843009213693952)(hs2:b.size<2305843009213693952)(r:BA)(hr:bagT a b=r) :
  Calls prog 280 #[.string a,.string b] w fun e w'=>e= .returned (.string r)∧Below w.heap.size w w':=by
 subst hr;have cv:=Jr w 2;unfold bagT;have hz:=YY 2;generalize Q4 [2]=z at *;have hns:¬(9223372036854775807<1+a.size):=by omega
 have hns2:¬(9223372036854775807<1+a.size+b.size):=by omega
 go_enter func280,ntmps280;go_wp2
 go_ret
 exact⟨rfl,bal (Lb _ _) _⟩
def chk(k:Int):Int:=if k<1∨32<k then 70 else 0
theorem QD(w:World)(k:Int):Calls prog 91 #[.int .i64 k] w fun e w'=>e= .returned (.int .i64 (chk k))∧w'=w:=by
 unfold chk
 go_enter func91,ntmps91
 by_cases h1:k<1
 ·rw[Lm (.inl h1)];go_wp2
  go_ret
  simp
 ·by_cases h2:32<k
  ·rw[Lm (.inr h2)];go_wp2
   go_ret
   simp
  ·rw[Ld (by omega)]
   go_wp2
   go_ret
   simp
theorem Qd{p:Prop}(h:p):Hid p:=h
theorem Tryz.infoI:(prog.info? 5).map (fun i=>(i.zero,i.size,i.bytes))=some (some (.int .u8 0),1,1):=by kernel_rfl
def OwnI(w:World)(B:Nat)(v:Value)(l:List Int):Prop:=w.ownsRow B 5 1 v l.length (cB l)
theorem Qh2{w:World}{B:Nat}{v:Value}{l:List Int}(h:OwnI w B v l)(h0:0<l.length):(convert 127 9 v).run prog w= .ok (.string (Q4 l)) w:=by
 have hc:=fun g=>h.cells (g:=g)
 obtain⟨h1,h2⟩:=h
 rcases h2 with ⟨rfl,h2⟩|⟨g,cap,cur,rfl,hg,hh,r⟩
 ·omega
 ·rw[run_convert_bytes_string w 127 9 5 _ _ _ underlying127 underlying5 underlying9];refine run_bytesToString w ⟨g,0,none⟩ l.length cap l ?_
  have:=run_loadCells_list (P:=prog) w ⟨g,0,none⟩ (cB l) (fun j v hv=>hc g rfl j v hv)
  rwa [Qu] at this
theorem QkA{w:World}{B:Nat}{v:Value}{l:List Int}(h:OwnI w B v l):∀k,v.ownBlock=some k->B<=k:=by
 obtain⟨_,h2⟩:=h
 rcases h2 with ⟨rfl,_⟩|⟨g,cp,cur,rfl,hg,_⟩
 ·intro k hk;cases hk
 ·intro k hk;cases hk;exact hg
theorem Qkz(w:World)(x:Int):OwnI (w.alloc (.cells #[.int .u8 x] 5)) w.heap.size (.slice (Zp w.heap.size) 1 1) [x] :=
 ⟨rfl,.inr ⟨w.heap.size,1,#[.int .u8 x],rfl,La _,Lt w _,La _,by unfold maxLen;omega,rfl,rfl⟩⟩
theorem QaE(w:World){ops:Array Oper}{rest:List Oper}{o:Oper}{a:Act}{Q:Exit->Act->World->Prop}
  (hg:o.guard=none) (s x:Operand) (hop:o.op=Op.call { callee:=Callee.builtin Builtin.append,args:=#[s,x],argTypes:=#[127,127] })
  (B:Nat) (v:Value) (L:List Int) (hs:a.eval s=v) (hown:OwnI w B v L) (y:Int) (hx:a.eval x= .slice (Zp w.heap.size) 1 1)
  (hlen:L.length<=1000) (hB:B<=w.heap.size)
  (hK:∀v' w',OwnI w' B v' (L++[y])->Below B w w'->wpList prog ops Q rest (a.put o.dst v') w'):wpList prog ops Q (o::rest) a (w.alloc (.cells #[.int .u8 y] 5)):=by
 obtain⟨i0,hi,hz0,hz1,hz2⟩:=info_parts Tryz.infoI;refine wpList_append_own _ hg s x _ hop B 5 i0 (.int .u8 0) 1 1 underlying127 hi hz0 hz1 hz2 rfl (by decide) _ _ _ hs (World.ownsRow.alloc hown _) ⟨w.heap.size,0,none⟩ 1 1 (cB [y]) hx (by simp[cB]) ?_ (by intro u hu;simp[cB] at hu;subst hu;rfl) (by unfold maxLen;omega) (by omega) (by simp;omega) ?_
 ·intro j u hu;have hj:j=0:=by have:=(List.getElem?_eq_some_iff.1 hu).1;simp[cB] at this;exact this
  subst hj;have hu':Value.int .u8 y=u:=Ic hu;subst hu';rw[Addr.add_mid,Nq]
  rfl
 ·intro v' w' h1 h2 _;refine hK v' w' ?_ (((Lb _ _).alloc hB _).trans ((Lb _ _).grown h2 (by simp;omega) (QkA hown)))
  rw[OwnI,Le,cB,LL];exact h1
def nbL(n:Nat)(j:Nat):List Int:=(List.range j).map fun i=>((n/256^(7-i)%256:Nat):Int)
theorem QcW(n j:Nat):(nbL n j).length=j:=by simp[nbL]
theorem Qkj(n j:Nat):nbL n (j+1)=nbL n j++[((n/256^(7-j)%256:Nat):Int)]:=by
 simp[nbL,List.range_succ]
theorem Qla(n k:Nat):(n:Int)/2^(8*(7-k))%256=((n/256^(7-k)%256:Nat):Int):=by
 rw[Int.natCast_emod,Int.natCast_ediv,Int.natCast_pow,Int.pow_mul]
 rfl
def QeN(n:Nat):List Int:=3::nbL n 8
def YA(n:Nat)(d:BA):BA:=Q4 (QeN n)++d
theorem QbF(n:Nat):(Q4 (QeN n)).size=9:=by rw[Qcr,QeN,LD,QcW]
theorem QbG(n:Nat)(d:BA):(YA n d).size=9+d.size:=by rw[YA,NG,QbF]
theorem Qii(w:World)(n:Nat)(d:BA)(hs:d.size<2305843009213693952)(r:BA)(hr:YA n d=r) :
  Calls prog 184 #[.int .u64 n,.string d] w fun e w'=>e= .returned (.string r)∧Below w.heap.size w w':=by
 subst hr;have hns:¬(9223372036854775807<9+d.size):=by omega
 have HS:=QbF n;unfold YA;obtain⟨z,HE⟩:∃z,Hid (Q4 (QeN n)=z):=⟨_,rfl⟩;rw[HE.out] at HS ⊢
 go_enter func184,ntmps184;go_wp2
 go_loopg [5,8] 8 (fun g v i wr=> ∃k:Nat,k<=8∧g=8-k∧i= .int .i64 k∧OwnI wr w.heap.size v (3::nbL n k)∧Below w.heap.size w wr)
 case atStart=>go_light;exact⟨0,Ln _,rfl,rfl,Qkz w 3,bal (Lb _ _) _⟩
 case round=>
  obtain⟨k,hk,rfl,rfl,hown,hb⟩:=hrel
  by_cases hlt:k<8
  ·have hz:(k:Int)<8:=by omega
   have HZ:Hid (w.heap.size<=wr.heap.size):=hb.size;have HL:Hid ((3::nbL n k).length<=1000):=by show _<=_;rw[LD,QcW];omega
   have HN:=Qd (Qkj n k)
   go_wp2_with (at_builtin;refine QaE _ rfl _ _ rfl w.heap.size _ (3::nbL n k) rfl hown _ rfl HL.out HZ.out ?_)
   intro v' w2 r1 r2;have HO:Hid (OwnI w2 w.heap.size v' (3::nbL n (k+1))):=by
    show OwnI _ _ _ _
    rw[HN.out,<-Qla n k];exact r1
   have HB:Hid (Below w.heap.size w w2):=hb.trans r2;clear r1 r2 hb hown HN;go_wp2
   go_roundg (8-(k+1))
   case rel=>go_light;exact⟨k+1,by omega,rfl,by go_num,HO.out,HB.out⟩
   case measure=>go_light;omega
  ·obtain rfl:k=8:=by omega
   have hcv:=Qh2 hown (by simp)
   have HB:Hid (Below w.heap.size w wr):=hb;clear hown hb hlt hk;rw[show(3::nbL n 8)=QeN n from rfl,HE.out] at hcv
   go_wp2
   go_ret
   exact⟨rfl,HB.out⟩
structure RdS(w:World)(ao:OA)(b off len:Nat)(ss:LB):Prop where
 hl:ss.length=len
 ptr:0<len->ao=some ⟨b,off,none⟩
 rng:w.rangeAt b off (ss.map Value.string)
 sz:∀s∈ss,s.size<=9223372036854775807
theorem RdS.lt{w:World}{ao:OA}{b off len:Nat}{ss:LB}(h:RdS w ao b off len ss)(h0:0<len):b<w.heap.size :=
 QI h.rng (by intro e;have:=LW List.length e;rw[LC,N9,h.hl] at this;omega)
theorem RdS.next{w W:World}{ao:OA}{b off len B:Nat}{ss:LB}(h:RdS w ao b off len ss)(hb:Below B w W)(hB:w.heap.size<=B):RdS W ao b off len ss:=by
 refine⟨h.hl,h.ptr,?_,h.sz⟩
 by_cases h0:0<len
 ·exact Qm hb (Lv (h.lt h0) hB) h.rng
 ·have:ss=[]:=List.length_eq_zero_iff.1 (by rw[h.hl];omega)
  rw[this];intro j v hv;cases hv
theorem RdS.at{w:World}{ao:OA}{b off len:Nat}{ss:LB}(h:RdS w ao b off len ss){k:Nat}(hk:k<len):w.cell? ⟨b,off+k,none⟩=some (.string (ss.getD k ByteArray.empty)) :=
 h.rng k _ (by have:=h.hl;simp[List.getElem?_eq_getElem (show k<ss.length by omega),List.getD_eq_getElem?_getD])
theorem Q1{ss:LB}{k:Nat}(hk:k<ss.length):ss.getD k ByteArray.empty∈ss:=by
 rw[Lc,Ll hk];exact LZ _
theorem OF(w:World)(ht:Tb w)(k:Int)(s:BA)(hs:s.size<2305843009213693952)(r:BA)(hr:dg (clk k) (Yx s)=r) :
  Calls prog 145 #[.int .i64 k,.string s] w fun e w'=>e= .returned (.string r)∧Below w.heap.size w w':=by
 have HL:=QhP w s hs;have HO:Hid (∀W,Below w.heap.size w W->Calls prog 183 #[.int .i64 k,.string (Yx s)] W fun e w'=>e= .returned (.string r)∧Below W.heap.size W w'):=fun W hb=>QaO W (ht.next hb) k _ (by rw[Qbq];omega) r hr
 clear hr ht hs;generalize Yx s=t at *
 go_enter func145,ntmps145
 go_wp2_with (first
  | (go_at_call 232;with_reducible refine HL.mono ?_;rintro e w1 ⟨rfl,hb1⟩)
  | (go_at_call 183;with_reducible refine(HO.out _ hb1).mono ?_;rintro e w2 ⟨rfl,hb2⟩))
 go_ret
 exact⟨rfl,Qa hb1 hb2⟩
theorem YW(w:World)(ht:Tb w)(k:Int)(a b:BA)(hs:a.size<2305843009213693952)(hs2:b.size<2305843009213693952)(r:BA)(hr:dg (clk k) (Qz a b)=r) :
  Calls prog 227 #[.int .i64 k,.string a,.string b] w fun e w'=>e= .returned (.string r)∧Below w.heap.size w w':=by
 have HL:=QhV w a b hs hs2;have HO:Hid (∀W,Below w.heap.size w W->Calls prog 183 #[.int .i64 k,.string (Qz a b)] W fun e w'=>e= .returned (.string r)∧Below W.heap.size W w'):=fun W hb=>QaO W (ht.next hb) k _ (by rw[Qbv];omega) r hr
 clear hr ht hs hs2;generalize Qz a b=t at *
 go_enter func227,ntmps227
 go_wp2_with (first
  | (go_at_call 319;with_reducible refine HL.mono ?_;rintro e w1 ⟨rfl,hb1⟩)
  | (go_at_call 183;with_reducible refine(HO.out _ hb1).mono ?_;rintro e w2 ⟨rfl,hb2⟩))
 go_ret
 exact⟨rfl,Qa hb1 hb2⟩
def QU(c:Nat):LB->BA
 | []=>ByteArray.empty
 | [p]=>p
 | p::q::r=>dg c (bagT p (QU c (q::r)))
theorem JF{c:Nat}(hc:c<=32){M:Nat}(hM:32<=M):∀(ss:LB),(∀s∈ss,s.size<=M)->(QU c ss).size<=M
 | [],_=>by simp[QU]
 | [p],h=>h p (by simp)
 | p::q::r,_=>by rw[QU,Ys hc];omega
theorem QbY(c:Nat)(ss:LB)(i:Nat)(h:i+1<ss.length):QU c (ss.drop i)=dg c (bagT (ss.getD i ByteArray.empty) (QU c (ss.drop (i+1)))):=by
 rw[L8 (by omega),L8 h,QU,Lc,Ll (by omega)]
 rfl
theorem QbZ(c:Nat)(ss:LB)(h:0<ss.length):QU c (ss.drop (ss.length-1))=ss.getD (ss.length-1) ByteArray.empty:=by
 rw[L8 (by omega),show ss.length-1+1=ss.length by omega,Wn,QU,Lc,Ll (by omega)]
 rfl
theorem Qe8(w:World)(ht:Tb w)(k:Int)(ao:OA)(b off len cap:Nat)(ss:LB)(hr:RdS w ao b off len ss)(hsz:∀s∈ss,s.size<=140737488351232)(hmx:len<=8796093022208)(r:BA)(hq:QU (clk k) ss=r) :
  Calls prog 185 #[.int .i64 k,.slice ao len cap] w fun e w'=>e= .returned (.string r)∧Below w.heap.size w w':=by
 by_cases h0:len=0
 ·subst h0;have:ss=[]:=List.length_eq_zero_iff.1 hr.hl;subst this;subst hq
  go_enter func185,ntmps185;go_wp2
  go_ret
  exact⟨rfl,Lb _ _⟩
 ·have hlen:0<len:=by omega
  obtain rfl:=hr.ptr hlen;obtain⟨m,rfl⟩:∃m,len=m+1:=⟨len-1,by omega⟩
  have hc:=Qs k;have hne:¬((m:Int)+1=0):=by omega
  have cm:=hr.at (k:=m) (by omega)
  have HL:Hid (QU (clk k) (ss.drop m)=ss.getD m ByteArray.empty):=by
   have:=QbZ (clk k) ss (by rw[hr.hl];omega)
   rw[hr.hl] at this;exact this
  have HSZ:Hid (∀d,d=QU (clk k) ss->True):=fun _ _=>trivial
  have HM:Hid (∀j,j<m+1->(ss.getD j ByteArray.empty).size<=140737488351232):=fun j hj=>hsz _ (Q1 (by rw[hr.hl];exact hj))
  have HD:Hid (∀j,(QU (clk k) (ss.drop j)).size<=140737488351232):=fun j=>JF hc (by decide) _ (fun s hs=>hsz s (Nu hs))
  have HN:Hid (∀j,j<m->QU (clk k) (ss.drop j)=dg (clk k) (bagT (ss.getD j ByteArray.empty) (QU (clk k) (ss.drop (j+1))))):=fun j hj=>QbY _ _ _ (by rw[hr.hl];omega)
  have HT:Hid (Tb w):=ht;have HR:Hid (RdS w (some ⟨b,off,none⟩) b off (m+1) ss):=hr;have HQ:Hid (QU (clk k) (ss.drop 0)=r):=hq;obtain⟨d0,hd0⟩:∃d0,ss.getD m ByteArray.empty=d0:=⟨_,rfl⟩;rw[hd0] at cm;have HL2:Hid (QU (clk k) (ss.drop m)=d0):=by rw[<-hd0];exact HL
  clear hd0 HL ht hr hq hsz HSZ h0 hlen
  go_enter func185,ntmps185;go_wp2
  go_loopg [6,7] m (fun g x i wr=> ∃(j:Nat) (d:BA),j=g∧x= .string d∧i= .int .i64 ((j:Int)-1)∧j<=m∧Hid (QU (clk k) (ss.drop j)=d)∧Below w.heap.size w wr)
  case atStart=>go_light;exact⟨m,d0,rfl,rfl,rfl,La _,HL2,Lb _ _⟩
  case round=>
   obtain⟨j,d,hg,rfl,rfl,hj,HE,hb⟩:=hrel;subst hg
   cases j with
   | zero=>
    have hz:¬((0:Int) <= -1):=by decide
    rw[show((0:Nat):Int)-1 = -1 from rfl]
    have HF:Hid (d=r):=HE.out.symm.trans HQ.out;clear HE HN HQ HM HD HR HT cm;obtain rfl:=HF.out;go_wp2
    go_ret
    exact⟨rfl,hb⟩
   | succ j=>
    have e1:((j+1:Nat):Int)-1=(j:Int):=by omega
    have hz:(0:Int)<=(j:Int):=by omega
    have hz2:(j:Int)<(m:Int)+1:=by omega
    have hjm:j<m:=by omega
    have cj:=(HR.out.next hb (La _)).at (k:=j) (by omega)
    have z1:=HM.out j (by omega)
    have z2:=HD.out (j+1);have hn:=HN.out j hjm;rw[HE.out] at z2 hn;generalize ss.getD j ByteArray.empty=p at *;have HG:=fun W=>QiI W p d (by omega) (by omega) _ rfl
    obtain⟨t,ht⟩:∃t,bagT p d=t:=⟨_,rfl⟩;have zt:=Qb0 p d;rw[ht] at zt;simp only[ht] at HG hn;obtain⟨d',hd'⟩:∃d',dg (clk k) t=d':=⟨_,rfl⟩;have HO:Hid (∀W,Below w.heap.size w W->Calls prog 183 #[.int .i64 k,.string t] W fun e w'=>e= .returned (.string d')∧Below W.heap.size W w'):=fun W hb=>QaO W (HT.out.next hb) k t (by omega) d' hd'
    have HE2:Hid (QU (clk k) (ss.drop j)=d'):=hn.trans hd';rw[e1];clear HE hn hd' ht zt z1 z2 e1 cm HL2
    go_wp2_with (first
     | (go_at_call 280;with_reducible refine(HG _).mono ?_;rintro e w1 ⟨rfl,hb1⟩;replace hb:=Qa hb hb1;clear hb1)
     | (go_at_call 183;with_reducible refine(HO.out _ hb).mono ?_;rintro e w2 ⟨rfl,hb2⟩;replace hb:=Qa hb hb2;clear hb2))
    go_roundg j
    case rel=>go_light;exact⟨j,d',rfl,rfl,by go_num,by omega,HE2.out,hb⟩
    case measure=>go_light;omega
theorem JA(w:World)(ht:Tb w)(k:Int)(n:Nat)(ao:OA)(b off len cap:Nat)(ss:LB)(hr:RdS w ao b off len ss)(hsz:∀s∈ss,s.size<=140737488351232)(hmx:len<=8796093022208)(r:BA)(hq:dg (clk k) (YA n (QU (clk k) ss))=r) :
  Calls prog 107 #[.int .i64 k,.int .u64 n,.slice ao len cap] w fun e w'=>e= .returned (.string r)∧Below w.heap.size w w':=by
 have hz:(QU (clk k) ss).size<=140737488351232:=JF (Qs k) (by decide) _ hsz
 obtain⟨d,hd⟩:∃d,QU (clk k) ss=d:=⟨_,rfl⟩;have HBg:=Qe8 w ht k ao b off len cap ss hr hsz hmx d hd;rw[hd] at hq hz;obtain⟨t,hrt⟩:∃t,YA n d=t:=⟨_,rfl⟩;have HRt:=fun W=>Qii W n d (by omega) t hrt
 have zt:=QbG n d;rw[hrt] at hq zt;have HO:Hid (∀W,Below w.heap.size w W->Calls prog 183 #[.int .i64 k,.string t] W fun e w'=>e= .returned (.string r)∧Below W.heap.size W w'):=fun W hb=>QaO W (ht.next hb) k t (by omega) r hq
 have hb:=Lb w.heap.size w;clear hq ht hd hrt zt hz hr hsz hmx
 go_enter func107,ntmps107
 go_wp2_with (first
  | (go_at_call 185;with_reducible refine HBg.mono ?_;rintro e w1 ⟨rfl,hb1⟩;replace hb:=Qa hb hb1;clear hb1)
  | (go_at_call 184;with_reducible refine(HRt _).mono ?_;rintro e w1 ⟨rfl,hb1⟩;replace hb:=Qa hb hb1;clear hb1)
  | (go_at_call 183;with_reducible refine(HO.out _ hb).mono ?_;rintro e w2 ⟨rfl,hb2⟩;replace hb:=Qa hb hb2;clear hb2))
 go_ret
 exact⟨rfl,hb⟩
namespace Pl
def Qv:Nat->Nat->Nat
 | 0,_=>0
 | k+1,n=>n%2+Qv k (n/2)
theorem Y9(n k:Nat):n/2^(k+1)=n/2^k/2:=by
 rw[LJ,L3]
theorem Qc9(k n:Nat):Qv k n<=k:=by
 induction k generalizing n with
 | zero=>exact La _
 | succ k ih=>have:=ih (n/2);simp only[Qv];omega
theorem Qak(k n:Nat)(hk:k<64):Qv (64-k) (n/2^k)=n/2^k%2+Qv (64-(k+1)) (n/2^(k+1)):=by
 rw[show 64-k=(64-(k+1))+1 by omega,Qv,Y9]
def pw(h:Nat):Nat:=2^h
theorem QF(h:Nat):pw (h+1)=2*pw h:=by simp[pw,Nat.pow_succ,Nat.mul_comm]
theorem UB:pw 0=1:=rfl
theorem Qw(h:Nat):0<pw h:=LP h
theorem Od(a b:Nat):pw (a+b)=pw a*pw b:=Im 2 a b
theorem J3{a b:Nat}(h:a<=b):pw a<=pw b:=Nc (by decide) h
theorem UU(j k:Nat)(h:k<2^j):Qv (j+1) k=Qv j k:=by
 induction j generalizing k with
 | zero=>simp at h;subst h;rfl
 | succ j ih=>
  rw[Qv,ih (k/2) (by rw[LJ] at h;omega)];rfl
def trl:Nat->Nat->Nat
 | 0,_=>0
 | f+1,n=>if n%2=1 then trl f (n/2)+1 else 0
theorem Qe1(f n:Nat)(h:n%2=1):trl (f+1) n=trl f (n/2)+1:=by rw[trl,Lm h]
theorem QeZ(f n:Nat)(h:¬n%2=1):trl (f+1) n=0:=by rw[trl,Ld h]
end Pl
section
open Pl (Qv)
def tr:Nat->Nat->Nat
 | 0,_=>0
 | k+1,n=>if n%2=1 then 0 else tr k (n/2)+1
theorem QpN(k n:Nat):tr k n<=k:=by
 induction k generalizing n with
 | zero=>exact La _
 | succ k ih=>have:=ih (n/2);simp only[tr];split <;> omega
theorem Qg6(k n:Nat)(hk:k<64):tr (64-k) (n/2^k)=if n/2^k%2=1 then 0 else tr (64-(k+1)) (n/2^(k+1))+1:=by
 rw[show 64-k=(64-(k+1))+1 by omega,tr,Pl.Y9]
theorem QgN(n h:Nat):n%2^(h+1)=n%2+2*(n/2%2^h):=by
 rw[LJ,LU,Il]
theorem QcD(n h:Nat):n/2^(h+1)=n/2/2^h:=by
 rw[LJ,LU,L3]
theorem Qlo:∀(F h n:Nat),h<F->(tr F n=h↔n%2^h=0∧n/2^h%2=1)
 | F+1,0,n,_=>by
  simp only[tr,Nat.pow_zero,Nat.mod_one,Nat.div_one,true_and]
  split <;> simp_all
 | F+1,h+1,n,hh=>by
  have ih:=Qlo F h (n/2) (by omega)
  rw[QgN,QcD];simp only[tr]
  by_cases e:n%2=1
  ·rw[Lm e,e]
   constructor
   ·intro h;omega
   ·rintro⟨h,_⟩;omega
  ·rw[Ld e]
   constructor
   ·intro h1;have:=ih.1 (by omega)
    exact⟨by rw[this.1];omega,this.2⟩
   ·rintro⟨h1,h2⟩;have:=ih.2 ⟨by omega,h2⟩
    omega
theorem Qlp:∀(F h n:Nat),h<=F->(tr F n<h↔n%2^h≠0)
 | F,0,n,_=>by simp[Nat.mod_one]
 | F+1,h+1,n,hh=>by
  have ih:=Qlp F h (n/2) (by omega)
  rw[QgN];simp only[tr]
  by_cases e:n%2=1
  ·rw[Lm e]
   constructor
   ·intro _;omega
   ·intro _;omega
  ·rw[Ld e]
   constructor
   ·intro h1;have:=ih.1 (by omega)
    omega
   ·intro h1;have:=ih.2 (by omega)
    omega
def ol{α:Type}(g:Nat->Nat->α):Nat->Nat->List α
 | 0,_=>[]
 | F+1,m=>(if m/2^F%2=1 then [g F (m/2^F)] else [])++ol g F m
theorem QmD{m F:Nat}(h:m%2^(F+1)=0):m%2^F=0∧m/2^F%2=0:=by
 rw[LJ,Il] at h;have:=LP F;refine⟨by omega,?_⟩
 rcases Nat.eq_zero_of_add_eq_zero_left h |> Nat.mul_eq_zero.1 with h|h
 ·omega
 ·exact h
theorem Qc7{α:Type}(g:Nat->Nat->α):∀F m,m%2^F=0->ol g F m=[]
 | 0,_,_=>rfl
 | F+1,m,h=>by
  obtain⟨h1,h2⟩:=QmD h;rw[ol,Ld (by omega),Qc7 g F m h1];rfl
theorem Qc6{α:Type}(g:Nat->Nat->α):∀F h m,h<F->m%2^h=0->m/2^h%2=1->ol g F m=ol g F (m-2^h)++[g h (m/2^h)]
 | F+1,h,m,hF,h0,h1=>by
  have hp:=LP h;have hm:2^h<=m:=by
   apply Ik
   intro hlt;rw[N8 hlt] at h1;omega
  by_cases e:h=F
  ·subst e;have hz:(m-2^h)%2^(h+1)=0:=by
    have e1:m=2^h*(m/2^h):=by have:=Ia m (2^h);omega
    obtain⟨q,hq⟩:∃q,m/2^h=2*q+1:=⟨m/2^h/2,by omega⟩
    rw[hq,N6,Nj,<-L5] at e1;rw[e1,Nx,LJ,Nat.mul_mod_right]
   rw[ol,Lm h1,Qc7 g h m h0,Qc7 g (h+1) _ hz];rfl
  ·have hlt:h<F:=by omega
   have hd:(m-2^h)/2^F=m/2^F:=by
    obtain⟨d,rfl⟩:∃d,F=h+(d+1):=⟨F-h-1,by omega⟩
    rw[Im,<-L3,<-L3,LJ,LU (2^d),<-L3,<-L3];have:(m-2^h)/2^h=m/2^h-1:=by
     have:=Nat.sub_mul_div m (2^h) 1;rw[Nj] at this;exact this
    rw[this]
    congr 1
    generalize m/2^h=x at h1;omega
   rw[ol,ol,hd,Qc6 g F h m hlt h0 h1,LH]
theorem JK{α:Type}(g:Nat->Nat->α):∀F m,(ol g F m).length<=F
 | 0,_=>La _
 | F+1,m=>by
  have:=JK g F m;rw[ol,Le]
  split <;> simp <;> omega
theorem OO:∀F m,Qv (F+1) m=m/2^F%2+Qv F m
 | 0,m=>by simp[Qv]
 | F+1,m=>by
  rw[Qv,OO F (m/2),Qv,QcD];omega
theorem QgQ{α:Type}(g:Nat->Nat->α):∀F m,(ol g F m).length=Qv F m
 | 0,_=>rfl
 | F+1,m=>by
  rw[ol,Le,OO,QgQ g F m];have:=Nat.mod_two_eq_zero_or_one (m/2^F)
  rcases this with e|e <;> rw[e] <;> simp
theorem Qeu(j m:Nat)(h:m<2^j):∀d,Qv (j+d) m=Qv j m
 | 0=>rfl
 | d+1=>by
  rw[<-Nr,Pl.UU (j+d) m (Lv h (Nc (by decide) (by omega))),Qeu j m h d]
def hts(n:Nat):List Nat:=ol (fun h _=>h) 41 n
theorem Qea{n:Nat}(hn:n<=1099511627776):(hts n).length=Qv 64 n:=by
 rw[hts,QgQ,show 64=41+23 from rfl,Qeu 41 n (by omega) 23]
theorem QjI(n:Nat):(hts n).length<=41:=JK _ _ _
def Yk(c:Nat):Nat->Nat->LB->BA->LB×LB
 | 0,_,P,d=>([d],P++[d])
 | f+1,t,P,d=>
  if t%2=1 then
   (d::(Yk c f (t/2) (P.take (P.length-1)) (dg c (Qz (P.getD (P.length-1) ByteArray.empty) d))).1,(Yk c f (t/2) (P.take (P.length-1)) (dg c (Qz (P.getD (P.length-1) ByteArray.empty) d))).2)
  else ([d],P++[d])
theorem UJ{c f t:Nat}{P:LB}{d:BA}(h:t%2=1){d':BA}(hd:dg c (Qz (P.getD (P.length-1) ByteArray.empty) d)=d') :
  Yk c (f+1) t P d=(d::(Yk c f (t/2) (P.take (P.length-1)) d').1,(Yk c f (t/2) (P.take (P.length-1)) d').2):=by
 rw[Yk,Lm h,hd]
theorem YO{c f t:Nat}{P:LB}{d:BA}(h:t%2≠1):Yk c f t P d=([d],P++[d]):=by
 cases f with
 | zero=>rfl
 | succ f=>rw[Yk,Ld h]
theorem Qfg{c:Nat}(hc:c<=32):∀(f t:Nat) (P:LB) (d:BA),(∀s∈P,s.size=c)->d.size=c->(∀s∈(Yk c f t P d).1,s.size=c)∧(∀s∈(Yk c f t P d).2,s.size=c):=by
 intro f
 induction f with
 | zero=>
  intro t P d hP hd;simp only[Yk];refine⟨fun s hs=>by simp at hs;rw[hs];exact hd,fun s hs=> ?_⟩
  rcases List.mem_append.1 hs with h|h
  ·exact hP s h
  ·simp at h;rw[h];exact hd
 | succ f ih=>
  intro t P d hP hd
  by_cases h:t%2=1
  ·rw[UJ h rfl];obtain⟨i1,i2⟩:=ih (t/2) (P.take (P.length-1)) (dg c (Qz (P.getD (P.length-1) ByteArray.empty) d)) (fun s hs=>hP s (Nm hs)) (Ys hc _)
   refine⟨fun s hs=> ?_,i2⟩
   rcases List.mem_cons.1 hs with h|h
   ·rw[h];exact hd
   ·exact i1 s h
  ·rw[YO h];refine⟨fun s hs=>by simp at hs;rw[hs];exact hd,fun s hs=> ?_⟩
   rcases List.mem_append.1 hs with h|h
   ·exact hP s h
   ·simp at h;rw[h];exact hd
theorem Uq{h t:Nat}(ho:t%2=1):2^h*t-2^h=2^(h+1)*(t/2)∧2^(h+1)*(t/2)+2^(h+1)=2^h*t+2^h:=by
 obtain⟨q,rfl⟩:∃q,t=2*q+1:=⟨t/2,by omega⟩
 rw[show(2*q+1)/2=q by omega,LJ,N6,Nj,L5]
 omega
theorem Je(h t:Nat):2^h*t%2^h=0∧2^h*t/2^h=t:=⟨Nat.mul_mod_right _ _,IQ _ (LP h)⟩
theorem QaR{α:Type}(g:Nat->Nat->α){F h t:Nat}(hF:h<F)(he:t%2≠1):ol g F (2^h*t+2^h)=ol g F (2^h*t)++[g h (t+1)]:=by
 have e:2^h*t+2^h=2^h*(t+1):=by rw[N6,Nj]
 obtain⟨a,b⟩:=Je h (t+1);rw[e,Qc6 g F h _ hF a (by rw[b];omega),b,<-e,Nx]
theorem Qbw{α:Type}(g:Nat->Nat->α){F h t:Nat}(hF:h<F)(ho:t%2=1):ol g F (2^h*t)=ol g F (2^(h+1)*(t/2))++[g h t]:=by
 obtain⟨a,b⟩:=Je h t;rw[Qc6 g F h _ hF a (by rw[b];exact ho),b,(Uq ho).1]
theorem Qhi(c F:Nat):∀(f h t:Nat) (P:LB) (d:BA),h+f<F->t<2^f->P.length=(ol (fun h _=>h) F (2^h*t)).length->(Yk c f t P d).2.length=(ol (fun h _=>h) F (2^h*t+2^h)).length:=by
 intro f
 induction f with
 | zero=>
  intro h t P d hF ht hl;obtain rfl:t=0:=by simpa using ht
  rw[QaR _ (by omega) (by decide),Yk,Le,Le,hl];rfl
 | succ f ih=>
  intro h t P d hF ht hl
  by_cases ho:t%2=1
  ·rw[UJ ho rfl];rw[Qbw _ (by omega) ho,Le,LR] at hl
   show(Yk c f (t/2) (P.take (P.length-1)) (dg c (Qz (P.getD (P.length-1) ByteArray.empty) d))).2.length=_
   rw[ih (h+1) (t/2) _ _ (by omega) (by rw[LJ] at ht;omega) (by rw[LA];omega),(Uq ho).2]
  ·rw[YO ho,QaR _ (by omega) ho,Le,Le,hl];rfl
theorem QiT(c F:Nat)(g:Nat->Nat->BA)(m:Nat)(hg:∀h t,2^h*(t+1)<=m->t%2=1->dg c (Qz (g h t) (g h (t+1)))=g (h+1) (t/2+1)):∀(f h t:Nat),h+f<F->t<2^f->2^h*t+2^h<=m ->
  (Yk c f t (ol g F (2^h*t)) (g h (t+1))).2=ol g F (2^h*t+2^h):=by
 intro f
 induction f with
 | zero=>
  intro h t hF ht hm;obtain rfl:t=0:=by simpa using ht
  rw[QaR _ (by omega) (by decide),Yk]
 | succ f ih=>
  intro h t hF ht hm
  by_cases ho:t%2=1
  ·have e1:=Qbw g (F:=F) (h:=h) (t:=t) (by omega) ho
   have e2:(ol g F (2^h*t)).length-1=(ol g F (2^(h+1)*(t/2))).length:=by rw[e1];simp
   have hd:dg c (Qz ((ol g F (2^h*t)).getD ((ol g F (2^h*t)).length-1) ByteArray.empty) (g h (t+1)))=g (h+1) (t/2+1):=by
    rw[e2,e1,<-hg h t (by rw[N6,Nj];exact hm) ho]
    simp[List.getD_eq_getElem?_getD]
   rw[UJ ho hd,e2]
   show(Yk c f (t/2) ((ol g F (2^h*t)).take (ol g F (2^(h+1)*(t/2))).length) (g (h+1) (t/2+1))).2=_
   rw[e1,Iw rfl,ih (h+1) (t/2) (by omega) (by rw[LJ] at ht;omega) (by rw[(Uq ho).2];exact hm),(Uq ho).2]
  ·rw[YO ho,QaR _ (by omega) ho]
theorem Qhj(c F:Nat)(g:Nat->Nat->BA)(m:Nat)(hg:∀h t,2^h*(t+1)<=m->t%2=1->dg c (Qz (g h t) (g h (t+1)))=g (h+1) (t/2+1)):∀(f h t:Nat),h+f<F->t<2^f->2^h*t+2^h<=m ->
  (Yk c f t (ol g F (2^h*t)) (g h (t+1))).1=(List.range (Pl.trl f t+1)).map fun j=>g (h+j) (t/2^j+1):=by
 intro f
 induction f with
 | zero=>
  intro h t hF ht hm;obtain rfl:t=0:=by simpa using ht
  simp[Yk,Pl.trl]
 | succ f ih=>
  intro h t hF ht hm
  by_cases ho:t%2=1
  ·have e1:=Qbw g (F:=F) (h:=h) (t:=t) (by omega) ho
   have e2:(ol g F (2^h*t)).length-1=(ol g F (2^(h+1)*(t/2))).length:=by rw[e1];simp
   have hd:dg c (Qz ((ol g F (2^h*t)).getD ((ol g F (2^h*t)).length-1) ByteArray.empty) (g h (t+1)))=g (h+1) (t/2+1):=by
    rw[e2,e1,<-hg h t (by rw[N6,Nj];exact hm) ho]
    simp[List.getD_eq_getElem?_getD]
   rw[UJ ho hd,e2]
   show g h (t+1)::(Yk c f (t/2) ((ol g F (2^h*t)).take (ol g F (2^(h+1)*(t/2))).length) (g (h+1) (t/2+1))).1=_
   rw[e1,Iw rfl,ih (h+1) (t/2) (by omega) (by rw[LJ] at ht;omega) (by rw[(Uq ho).2];exact hm),Pl.Qe1 f t ho,List.range_succ_eq_map (n:=Pl.trl f (t/2)+1),Iy,I4]
   simp only[Nat.pow_zero,Nat.div_one,Nat.add_zero]
   congr 1
   refine NE fun j _=> ?_
   simp only[Function.comp];rw[Nat.succ_eq_add_one,QcD,show h+1+j=h+(j+1) by omega]
  ·rw[YO ho,Pl.QeZ f t ho];simp
def er(k:Int)(n:Nat)(h:Int)(s:BA):Nat :=
 if (s.size:Int)≠k then 90 else if h<0∨40<h∨n%2^h.toNat≠0 then 41 else if 1099511627776<n+2^h.toNat then 30 else 0
def mk(c n:Nat)(P:LB)(h:Nat)(s:BA):LB×LB:=Yk c (40-h) (n/2^h) P s
def nxN(k:Int)(n:Nat)(h:Int)(s:BA):Nat:=if er k n h s=0 then n+2^h.toNat else n
def nxP(k:Int)(n:Nat)(P:LB)(h:Int)(s:BA):LB:=if er k n h s=0 then (mk (clk k) n P h.toNat s).2 else P
def an(k:Int)(n:Nat)(P:LB)(h:Int)(s:BA):LB:=if er k n h s=0 then (mk (clk k) n P h.toNat s).1 else []
theorem YP{k:Int}(h1:1<=k)(h2:k<=32):(clk k:Int)=k:=by
 unfold clk;rw[Ld (by omega),Ld (by omega)]
 omega
end
end Go.Proofs.YtoblgjledefdbaaGreatDoor
