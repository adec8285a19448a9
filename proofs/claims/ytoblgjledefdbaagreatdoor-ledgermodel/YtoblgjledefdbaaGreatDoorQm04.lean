/- Own work. -/
import Derived.BigQuiet
import Derived.Test.YtoblgjledefdbaaGreatDoorQm03
set_option maxRecDepth 100000
set_option maxHeartbeats 1000000
namespace Go.Proofs.YtoblgjledefdbaaGreatDoor
open Go.RowKit
attribute [local go_sem ↓] Go.wp_at_zero Go.wp_at_succ
open Go.Proofs.Tryz
theorem Tryz.infoS:(prog.info? 9).map (fun i=>(i.zero,i.size,i.bytes))=some (some (.string ByteArray.empty),1,16):=by kernel_rfl
theorem Uy(w:World)(s:BA)(hs:s.size<=9223372036854775807):RdS (w.alloc (.cells #[.string s] 9)) (some ⟨w.heap.size,0,none⟩) w.heap.size 0 1 [s] :=
 ⟨rfl,fun _=>rfl,Qq w [.string s] 9,fun x hx=>by simp at hx;subst hx;exact hs⟩
def Qi(w:World)(B:Nat)(v:Value)(ss:LB):Prop:=w.ownsRow B 9 1 v ss.length (ss.map Value.string)
theorem QR{w:World}{B:Nat}{v:Value}{ss:LB}(h:Qi w B v ss)(hs : ∀s∈ss,s.size<=9223372036854775807) : ∃ao b cap,v = .slice ao ss.length cap∧RdS w ao b 0 ss.length ss∧ss.length<=cap∧(ao=none->cap=0):=by
 obtain⟨h1,h2⟩:=h
 rcases h2 with ⟨hv,h0⟩|⟨g,cap,cur,rfl,hg,hh,hc1,hc,hsz,ht⟩
 ·have:ss=[]:=List.length_eq_zero_iff.1 h0;subst this;exact⟨none,0,0,by rw[hv];rfl,⟨rfl,fun h=>absurd h (Nk 0),(fun j v h=>by cases h),hs⟩,La _,fun _=>rfl⟩
 ·refine⟨some ⟨g,0,none⟩,g,cap,rfl,⟨rfl,fun _=>rfl,fun j v hj => ?_,hs⟩,hc1,fun h=>by cases h⟩
  rw[Lm,cell_of_row w g j cur 9 (0,0) hh];rw[<-ht,LQ] at hj
  split at hj
  ·simpa using hj
  ·cases hj
theorem QM(w:World){ops:Array Oper}{rest:List Oper}{o:Oper}{a:Act}{Q:Exit->Act->World->Prop}
  (hg:o.guard=none) (s x:Operand) (hop:o.op=Op.call { callee:=Callee.builtin Builtin.append,args:=#[s,x],argTypes:=#[22,22] })
  (B:Nat) (v:Value) (L:LB) (hs:a.eval s=v) (hown:Qi w B v L) (ao:OA) (b off cap:Nat) (M:LB) (hx:a.eval x = .slice ao M.length cap) (hr:RdS w ao b off M.length M) (hn:ao=none->cap=0)
  (hlen:L.length+M.length<=8796093022208) (hB:B<=w.heap.size)
  (hK : ∀v' w',Qi w' B v' (L++M)->Below B w w'->wpList prog ops Q rest (a.put o.dst v') w'):wpList prog ops Q (o::rest) a w:=by
 obtain⟨i0,hi,xC,xD,xE⟩:=info_parts Tryz.infoS;have xB : ∀k,v.ownBlock=some k->B<=k:=by
  obtain⟨_,h2⟩:=hown
  rcases h2 with ⟨rfl,_⟩|⟨g,cp,cur,rfl,hg,_⟩
  ·intro k hk;cases hk
  ·intro k hk;cases hk;exact hg
 cases ao with
 | none =>
  obtain rfl:=hn rfl;have hM:M=[]:=by
   cases M with
   | nil=>rfl
   | cons m r=>exact absurd (hr.ptr (by simp)) (by simp)
  subst hM;refine wpList_append_own_none hg s x _ hop B 9 i0 1 underlying22 hi _ _ _ hs hown hx (hK _ w ?_ (Lb _ _))
  rw[LS];exact hown
 | some ad =>
  have xA : ∀j u,(M.map Value.string)[j]? = some u->w.cell? (ad.add j)=some u:=fun j u hu=>by
   have hj:j<M.length:=by have:=(List.getElem?_eq_some_iff.1 hu).1;rwa [Nc] at this
   have:=Ns (hr.ptr (by omega))
   subst this;rw[Addr.add_mid];exact hr.rng j u hu
  refine wpList_append_own w hg s x _ hop B 9 i0 (.string ByteArray.empty) 1 16 underlying22 hi xC xD xE rfl (by decide) _ _ _ hs hown ad M.length cap (M.map Value.string) hx (by simp) xA (by intro u hu;obtain⟨y,_,rfl⟩:=List.mem_map.1 hu;rfl) (by unfold maxLen;omega) (by omega) hB ?_
  intro v' w' h1 h2 _;refine hK v' w' ?_ ((Lb _ _).grown h2 hB xB)
  rw[Qi,Lc,L5];exact h1
theorem Yr{w:World}{B:Nat}{v:Value}{l:LB}(h:Qi w B v l)(o:Obj):Qi (w.alloc o) B v l:=by
 obtain⟨h1,h2⟩:=h;refine⟨h1,?_⟩
 rcases h2 with h2|⟨g,cap,cur,rfl,hg,hh,r⟩
 ·exact .inl h2
 ·exact .inr ⟨g,cap,cur,rfl,hg,by rw[Below.heap_alloc _ _ _ (Array.getElem?_eq_some_iff.1 hh).1];exact hh,r⟩
theorem Qv{w W:World}{B B':Nat}{v:Value}{l:LB}(h:Qi w B v l)(hb:Below B' w W)(hB:w.heap.size<=B'):Qi W B v l:=by
 obtain⟨h1,h2⟩:=h;refine⟨h1,?_⟩
 rcases h2 with h2|⟨g,cap,cur,rfl,hg,hh,r⟩
 ·exact .inl h2
 ·exact .inr ⟨g,cap,cur,rfl,hg,by rw[hb.block g (Lx (Array.getElem?_eq_some_iff.1 hh).1 hB)];exact hh,r⟩
theorem QeO{w:World}{B:Nat}{v:Value}{l:LB}(h:Qi w B v l)(h0:0<l.length) : ∃g cap,v = .slice (some ⟨g,0,none⟩) l.length cap∧B<=g∧l.length<=cap∧cap<=maxLen:=by
 obtain⟨h1,h2⟩:=h
 rcases h2 with ⟨_,h2⟩|⟨g,cap,cur,hv,hg,_,hc,hm,_⟩
 ·omega
 ·exact⟨g,cap,hv,hg,hc,hm⟩
theorem Ur{w:World}{B g n cap:Nat}{l:LB}(h:Qi w B (.slice (some ⟨g,0,none⟩) n cap) l){j:Nat}(hj:j<l.length):w.cell? ⟨g,j,none⟩=some (.string (l.getD j ByteArray.empty))∧w.frozen? ⟨g,j,none⟩=false:=by
 obtain⟨h1,h2⟩:=h
 rcases h2 with ⟨h2,_⟩|⟨g',cap',cur,hv,hg,hh,hc,hm,hz,ht⟩
 ·cases h2
 ·obtain⟨e1,e2,e3⟩:=Iv hv
  cases e1;refine⟨?_,frozen_of_row w g j cur 9 hh⟩
  rw[cell_of_row w g j cur 9 (0,0) hh];have:(cur.toList.take (l.length*1))[j]? = some (.string (l.getD j ByteArray.empty)):=by
   rw[ht];simp[List.getElem?_eq_getElem hj,List.getD_eq_getElem?_getD]
  rw[NC (by omega)] at this
  simpa using this
theorem YK(w:World)(B:Nat):Qi w B (.slice none 0 0) []:=⟨rfl,.inl ⟨rfl,rfl⟩⟩
namespace Pl
theorem Qfy(n k:Nat)(hn:n<2^64):(bits BinOp.and IntKind.u64 ((n:Int) / 2^k) 1 == 1)=decide (n / 2^k % 2=1):=by
 have e:((n:Int) / 2^k)=((n / 2^k:Nat):Int):=by simp
 rw[e];have hm:n / 2^k<18446744073709551616:=NT (NM _ _) hn
 revert hm
 generalize n / 2^k=m;intro hm;have:=bits_and_u64_nat m 1 hm (by decide)
 rw[show(1:Int)=((1:Nat):Int) from rfl,this,IU]
 by_cases h:m % 2=1
 ·simp[h]
 ·have:m % 2=0:=by omega
  simp[this]
theorem YR(n k:Nat)(w:World)(hn:n<2^64)(hk:k<64) :
  Calls prog 224 #[.int .u64 n,.int .i64 k] w fun e w'=>e = .returned (.bool (decide (n / 2^k % 2=1)))∧w'=w:=by
 have xA:(0:Int)<=(k:Int):=Lf _
 go_enter func224,ntmps224;go_wp2
 go_ret
 refine⟨?_,rfl⟩
 rw[<-Qfy n k hn]
 rfl
theorem Jw(n:Nat)(w:World)(hn:n<2^64) :
  Calls prog 138 #[.int .u64 n] w fun e w'=>e = .returned (.int .i64 (Qy 64 n:Nat))∧w'=w:=by
 go_enter func138,ntmps138;go_wp2
 go_loopg [3,5] 64 (fun g c i wr => ∃k m:Nat,k<=64∧g=64 - k∧i = .int .i64 k∧c = .int .i64 m∧m<=k∧m+Qy (64 - k) (n / 2^k)=Qy 64 n∧w=wr)
 case atStart=>go_light;exact⟨0,0,Ll _,rfl,rfl,rfl,Ll _,by simp,rfl⟩
 case round =>
  obtain⟨k,m,hk,rfl,rfl,rfl,hm,hs,rfl⟩:=hrel;have xA:(0:Int)<=(k:Int):=Lf _;have xC:(0:Int)<=(m:Int):=Lf _;have xD:(m:Int)<=64:=by omega
  by_cases hlt:k<64
  ·have xB:(k:Int)<64:=by omega
   have HS:=Qat k n hlt;have HC:=YR n k w hn hlt
   by_cases hb:n / 2^k % 2=1
   ·rw[LA hb] at HC
    go_wp2_with (go_at_call 224;refine HC.mono ?_;rintro e w' ⟨rfl,rfl⟩)
    go_roundg (64 - (k+1))
    case rel=>go_light;exact⟨k+1,m+1,by omega,rfl,by go_num,by go_num,by omega,by omega,rfl⟩
    case measure=>go_light;omega
   ·rw[Ls hb] at HC
    go_wp2_with (go_at_call 224;refine HC.mono ?_;rintro e w' ⟨rfl,rfl⟩)
    go_roundg (64 - (k+1))
    case rel=>go_light;exact⟨k+1,m,by omega,rfl,by go_num,rfl,by omega,by omega,rfl⟩
    case measure=>go_light;omega
  ·obtain rfl:k=64:=by omega
   clear hk hlt;go_wp2
   go_ret
   refine⟨?_,rfl⟩
   rw[<-hs]
   rfl
end Pl
namespace Kp
open Pl (Qy)
theorem Qd6(x:Int)(h0:0<=x)(h1:x<18446744073709551616):IntKind.u64.wrap x=x:=by
 simp[IntKind.wrap,IntKind.signed,IntKind.bits];omega
theorem J0(n:Nat)(w:World)(hn:n<2^64)(t:Nat)(ht:tr 64 n=t) :
  Calls prog 253 #[.int .u64 n] w fun e w'=>e = .returned (.int .i64 (t:Int))∧w'=w:=by
 subst ht
 go_enter func253,ntmps253;go_wp2
 go_loopg [4] 64 (fun g i wr => ∃k:Nat,k<=64∧g=64 - k∧i = .int .i64 k∧k+tr (64 - k) (n / 2^k)=tr 64 n∧w=wr)
 case atStart=>go_light;exact⟨0,Ll _,rfl,rfl,by simp,rfl⟩
 case round =>
  obtain⟨k,hk,rfl,rfl,hs,rfl⟩:=hrel;have xA:(0:Int)<=(k:Int):=Lf _
  by_cases hlt:k<64
  ·have xB:(k:Int)<64:=by omega
   have HC:=Pl.YR n k w hn hlt;have HS:=Qhy k n hlt
   by_cases hb:n / 2^k % 2=1
   ·rw[Lk hb] at HS;rw[LA hb] at HC
    go_wp2_with (go_at_call 224;refine HC.mono ?_;rintro e w' ⟨rfl,rfl⟩)
    go_ret
    refine⟨?_,rfl⟩
    rw[<-hs,HS]
    rfl
   ·rw[Le hb] at HS;rw[Ls hb] at HC
    go_wp2_with (go_at_call 224;refine HC.mono ?_;rintro e w' ⟨rfl,rfl⟩)
    go_roundg (64 - (k+1))
    case rel=>go_light;exact⟨k+1,by omega,rfl,by go_num,by omega,rfl⟩
    case measure=>go_light;omega
  ·obtain rfl:k=64:=by omega
   clear hk hlt;go_wp2
   go_ret
   refine⟨?_,rfl⟩
   rw[<-hs]
   rfl
theorem QmG(h:Nat)(w:World)(hh:h<64)(p:Nat)(hp:2^h=p) :
  Calls prog 394 #[.int .i64 h] w fun e w'=>e = .returned (.tuple #[.int .u64 (p:Int),.bool true])∧w'=w:=by
 have xA:(0:Int)<=(h:Int):=Lf _;have xB:(h:Int)<64:=by omega
 have e1:IntKind.u64.wrap ((2:Int)^h)=(p:Int):=by
  have:=Nat.pow_lt_pow_right (a:=2) (by decide) hh
  have e:((2:Int)^h)=(p:Int):=by rw[<-hp];simp
  rw[hp] at this;rw[e,IntKind.wrap_u64];omega
 clear hp
 go_enter func394,ntmps394;go_wp2
 go_ret2
 exact⟨rfl,rfl⟩
theorem Qcx(h:Nat)(w:World)(hh:h<=40)(p:Nat)(hp:2^h=p) :
  Calls prog 331 #[.int .i64 h] w fun e w'=>e = .returned (.int .u64 (p:Int))∧w'=w:=by
 have HP:=QmG h w (by omega) p hp
 clear hp
 go_enter func331,ntmps331
 go_wp2_with (go_at_call 394;refine HP.mono ?_;rintro e w' ⟨rfl,rfl⟩)
 go_ret
 exact⟨rfl,rfl⟩
theorem Qir(w:World):Qi (w.alloc (.cells #[] 9)) w.heap.size (.slice (some ⟨w.heap.size,0,none⟩) 0 0) [] :=
 ⟨rfl,.inr ⟨w.heap.size,0,#[],rfl,La _,LH w _,La _,Ll _,rfl,rfl⟩⟩
theorem Qdz(w:World)(s:BA):Qi (w.alloc (.cells #[.string s] 9)) w.heap.size (.slice (some ⟨w.heap.size,0,none⟩) 1 1) [s] :=
 ⟨rfl,.inr ⟨w.heap.size,1,#[.string s],rfl,La _,LH w _,La _,by unfold maxLen;omega,rfl,rfl⟩⟩
theorem QN{w:World}{B B':Nat}{v:Value}{l:LB}(h:Qi w B v l)(hB:B'<=B):Qi w B' v l:=by
 obtain⟨h1,h2⟩:=h;refine⟨h1,?_⟩
 rcases h2 with h2|⟨g,cap,cur,hv,hg,h3⟩
 ·exact .inl h2
 ·exact .inr ⟨g,cap,cur,hv,by omega,h3⟩
theorem JL(w:World)(ao:OA)(b off cap:Nat)(P:LB)(hr:RdS w ao b off P.length P)(hn:ao=none->cap=0)(hmx:P.length<=8796093022208) :
  Calls prog 158 #[.slice ao P.length cap] w fun e w' => ∃v,e = .returned v∧Qi w' w.heap.size v P∧Below w.heap.size w w':=by
 have qT : ∀(w:World) (a:OA) (n c n' c':Nat),(binOp .eql 22 (.slice a n c) (.slice none n' c')).run prog w = .ok (.bool a.isNone) w:=fun w a n c n' c'=>Lib.run_eql_slice_nil w _ _ a n c n' c' underlying22
 cases ao with
 | none =>
  obtain rfl:=hn rfl;have hP:P=[]:=by
   cases P with
   | nil=>rfl
   | cons m r=>exact absurd (hr.ptr (by simp)) (by simp)
  subst hP;clear hr hmx hn
  go_enter func158,ntmps158;go_wp2
  go_ret
  exact⟨_,rfl,YK w _,Lb _ _⟩
 | some ad =>
  have HR:Hid (∀o,RdS (w.alloc o) (some ad) b off P.length P):=fun o=>hr.next (bal (Lb _ _) o) (La _)
  have HM:=Qd hmx;clear hr hn hmx
  go_enter func158,ntmps158
  go_wp2_with (at_builtin;refine QM _ rfl _ _ rfl w.heap.size _ [] rfl (Qir w) (some ad) b off cap P rfl (HR.out _) (fun h=>by cases h) ?c1 ?c2 ?_)
  case c1=>have:=HM.out;simp;omega
  case c2=>simp
  intro v1 w1 h1 hb1;have HX:Hid (Qi w1 w.heap.size v1 P∧Below w.heap.size w w1):=⟨by simpa using h1,(bal (Lb _ _) _).trans hb1⟩
  clear h1 hb1;go_wp2
  go_ret
  exact⟨_,rfl,HX.out.1,HX.out.2⟩
theorem Qju(w:World)(ao:OA)(len cap:Nat)(hc:len<=cap) :
  Calls prog 332 #[.slice ao len cap] w fun e w'=>e = .returned (.slice ao len len)∧w'=w:=by
 have xA:(len:Int)<=(cap:Int):=by omega
 clear hc
 go_enter func332,ntmps332;go_wp2
 go_ret
 exact⟨rfl,rfl⟩
theorem Ox(w:World){ops:Array Oper}{rest:List Oper}{o:Oper}{a:Act}{Q:Exit->Act->World->Prop}
  (hg:o.guard=none) (s x:Operand) (hop:o.op=Op.call { callee:=Callee.builtin Builtin.append,args:=#[s,x],argTypes:=#[22,22] })
  (ao:OA) (b:Nat) (P:LB) (hs:a.eval s = .slice ao P.length P.length) (hr:RdS w ao b 0 P.length P) (ad:Addr) (d:BA) (hx:a.eval x = .slice (some ad) 1 1) (hc:w.cell? ad=some (.string d))
  (hlen:P.length<=1000)
  (hK : ∀v' w',Qi w' w.heap.size v' (P++[d])->Below w.heap.size w w'->wpList prog ops Q rest (a.put o.dst v') w'):wpList prog ops Q (o::rest) a w:=by
 obtain⟨i0,hi,xB,xC,xD⟩:=info_parts Tryz.infoS;have xA : ∀j u,[Value.string d][j]? = some u->w.cell? (ad.add j)=some u:=by
  intro j u hj
  match j,hj with
  | 0,hj=>simp at hj;subst hj;simpa [Addr.add] using hc
 refine wpList_append_grows w hg s x _ hop 9 i0 (.string ByteArray.empty) 1 16 underlying22 hi xB xC xD rfl (by decide) ao P.length P.length (P.map Value.string) hs (fun h => ?_) (by simp) (fun ad' h j u hu => ?_) ad 1 1 [.string d] hx rfl xA (by intro u hu;simp at hu;subst hu;rfl) (by omega) (by unfold maxLen;omega) (by omega) ?_
 ·by_cases h0:0<P.length
  ·have:=hr.ptr h0;rw[h] at this;cases this
  ·omega
 ·have hj:j<P.length:=by have:=(List.getElem?_eq_some_iff.1 hu).1;rwa [Nc] at this
  have e:=hr.ptr (by omega)
  rw[h] at e
  cases e;rw[Addr.add_mid];exact hr.rng j u hu
 ·intro v' w' h1 h2;refine hK v' w' ?_ ((Lb _ _).grown h2 (La _) (fun k hk=>by cases hk))
  rw[Qi,Lc,L5];exact h1
structure Rg(w:World)(p:Nat)(v:Value)(k:Int)(n:Nat)(P:LB):Prop where
 blk:w.heap[p]? = some (.cells #[.int .i64 k,.int .u64 (n:Int),v] 234 (0,0))
 own:Qi w 0 v P
 k1:1<=k
 k2:k<=32
 hn:n<=1099511627776
 hl:P.length=(hts n).length
 hs : ∀s∈P,s.size=clk k
section
variable {w W:World} {p q:Nat} {v u:Value} {k k':Int} {n n':Nat} {P P':LB}
theorem Rg.lt(h:Rg w p v k n P):p<w.heap.size:=(Array.getElem?_eq_some_iff.1 h.blk).1
theorem Rg.c0(h:Rg w p v k n P):w.cell? ⟨p,0,none⟩=some (.int .i64 k):=by rw[cell_of_row w p 0 _ _ (0,0) h.blk];rfl
theorem Rg.c1(h:Rg w p v k n P):w.cell? ⟨p,1,none⟩=some (.int .u64 (n:Int)):=by rw[cell_of_row w p 1 _ _ (0,0) h.blk];rfl
theorem Rg.c2(h:Rg w p v k n P):w.cell? ⟨p,2,none⟩=some v:=by rw[cell_of_row w p 2 _ _ (0,0) h.blk];rfl
theorem Rg.fz(h:Rg w p v k n P)(j:Nat):w.frozen? ⟨p,j,none⟩=false:=frozen_of_row w p j _ _ h.blk
theorem Rg.short(h:Rg w p v k n P):P.length<=41:=by rw[h.hl];exact Qj0 n
theorem Rg.small(h:Rg w p v k n P) : ∀s∈P,s.size<=140737488351232:=fun s hs=>by rw[h.hs s hs];have:=QO k;omega
theorem Rg.next{B:Nat}(h:Rg w p v k n P)(hb:Below B w W)(hB:w.heap.size<=B):Rg W p v k n P :=
 ⟨by rw[hb.block p (Lx h.lt hB)];exact h.blk,Qv h.own hb hB,h.k1,h.k2,h.hn,h.hl,h.hs⟩
theorem Rg.rd(h:Rg w p v k n P) : ∃ao b cap,v = .slice ao P.length cap∧RdS w ao b 0 P.length P∧P.length<=cap∧(ao=none->cap=0) :=
 QR h.own (fun s hs=>Lu (h.small s hs) (by decide))
end
structure Ch(p:Nat)(w w':World):Prop where
 below:Below p w w'
 block : ∀q,q<w.heap.size->q≠p->w'.heap[q]? = w.heap[q]?
theorem Ch.of{p:Nat}{w w':World}(h:Below w.heap.size w w')(hp:p<w.heap.size):Ch p w w':=⟨h.mono (Nat.le_of_lt hp),fun q hq _=>h.block q hq⟩
theorem Ch.set{p:Nat}{w w':World}(h:Ch p w w')(i:Nat)(v:Value):Ch p w (w'.setCell ⟨p,i,none⟩ v):=by
 refine⟨h.below.setCell (p:=⟨p,i,none⟩) (La _) v,fun q hq hne => ?_⟩
 rw[<-h.block q hq hne];exact Below.heap_setCell _ _ _ _ hne
theorem Qia{l:Nat}{J J':Act->World->Prop}{Q:Exit->Act->World->Prop}(h : ∀a w,J a w->J' a w) : ∀e a w,Exit.jump l J Q e a w->Exit.jump l J' Q e a w:=by
 intro e a w hq
 cases e with
 | goto l'=>exact⟨hq.1,h _ _ hq.2⟩
 | _=>exact hq
theorem Qd9{P:Program}{a:Act}{w:World}{Q:Exit->Act->World->Prop}{c X:Code}(l:Nat)(J:Act->World->Prop)(μ:Act->World->Nat)(hf:findLabel c l=some (Code.skip.seq X))
  (pass : ∀a w,J a w->X.wp P (Exit.jump l (fun a' w'=>J a' w'∧μ a' w'<μ a w) Q) a w)
  (first:(∀a w,J a w->X.wp P (Exit.jump l J Q) a w)->c.wp P (Exit.jump l J Q) a w):(Code.scope c).wp P Q a w :=
 wp_scope_jumps l J μ hf (first fun a w h=>wp_mono (pass a w h) (Qia fun _ _ h=>h.1)) fun a w h=>wp_seq (wp_skip (pass a w h))
def slen:Value->Nat
 | .slice _ n _=>n
 | _=>0
def QoU(v u:Value):Prop := ∀g,v.ownBlock=some g->u.ownBlock=some g->False
structure Did(w w':World)(p:Nat)(v:Value)(k:Int)(n':Nat)(P':LB)(vm:Value)(M:LB)(v':Value):Prop where
 rg:Rg w' p v' k n' P'
 own:Qi w' w.heap.size vm M
 ch:Ch p w w'
 new:v'=v ∨ ∀g,v'.ownBlock=some g->w.heap.size<=g
 apart:QoU vm v'
theorem Y9{w:World}{B p i:Nat}{v x:Value}{l:LB}(h:Qi w B v l)(hp:p<B):Qi (w.setCell ⟨p,i,none⟩ x) B v l:=by
 obtain⟨h1,h2⟩:=h;refine⟨h1,?_⟩
 rcases h2 with h2|⟨g,cap,cur,rfl,hg,hh,r⟩
 ·exact .inl h2
 ·exact .inr ⟨g,cap,cur,rfl,hg,by rw[<-hh];exact Below.heap_setCell _ _ _ _ (by show g≠p;omega),r⟩
structure At(w wr:World)(c h t f left:Nat)(d:BA)(A0 P' M Q:LB)(vm:Value)(ao:OA)(b len cap:Nat):Prop where
 hlen:P'.length=len
 hleft:left=2^h*t
 ht:t<2^f
 hf:h+f=40
 hd:d.size=c
 hP : ∀s∈P',s.size=c
 hl:P'.length=(ol (fun h _=>h) 41 left).length
 hA:A0.length<=h
 hM:A0++(Yd c f t P' d).1=M
 hQ:(Yd c f t P' d).2=Q
 own:Qi wr w.heap.size vm (A0++[d])
 rd:RdS w ao b 0 len P'
 cap:len<=cap
 below:Below w.heap.size w wr
theorem At.next{w wr W:World}{c h t f left:Nat}{d:BA}{A0 P' M Q:LB}{vm:Value}{ao:OA}{b len cap:Nat}(s:At w wr c h t f left d A0 P' M Q vm ao b len cap)(hb:Below wr.heap.size wr W):At w W c h t f left d A0 P' M Q vm ao b len cap :=
 ⟨s.hlen,s.hleft,s.ht,s.hf,s.hd,s.hP,s.hl,s.hA,s.hM,s.hQ,Qv s.own hb (La _),s.rd,s.cap,Qa s.below hb⟩
theorem At.lt{w wr:World}{c h t f left:Nat}{d:BA}{A0 P' M Q:LB}{vm:Value}{ao:OA}{b len cap:Nat}(s:At w wr c h t f left d A0 P' M Q vm ao b len cap):left<1099511627776:=by
 rw[s.hleft,show 1099511627776=2^(h+f) by rw[s.hf],Ix]
 exact Nat.mul_lt_mul_of_pos_left s.ht (LJ h)
theorem At.pop{w wr W:World}{c h t f left:Nat}{d d':BA}{A0 P' M Q:LB}{vm vm':Value}{ao:OA}{b m cap:Nat}(hc:c<=32)(s:At w wr c h t f left d A0 P' M Q vm ao b (m+1) cap)(ho:t % 2=1)(hd:dg c (QV (P'.getD m ByteArray.empty) d)=d')(hb:Below w.heap.size w W)(ho':Qi W w.heap.size vm' ((A0++[d])++[d'])) :
  ∃f',At w W c (h+1) (t / 2) f' (left - 2^h) d' (A0++[d]) (P'.take m) M Q vm' ao b m cap:=by
 have hf:=s.hf;have xB:=s.ht;have hl:=s.hl;have xD:=s.hlen;have xC:=s.cap;have hA:=s.hA;have xA:=s.rd
 cases f with
 | zero=>simp at xB;omega
 | succ f =>
  have hM:=s.hM;have hQ:=s.hQ;have e:P'.length - 1=m:=by omega
  rw[UI ho (d':=d') (by rw[e];exact hd),e] at hM hQ
  rw[s.hleft] at hl ⊢;rw[QbI _ (by omega) ho,Lc,LF] at hl
  rw[LC] at xB;refine⟨f,⟨by rw[Lz];omega,(Uu ho).1,by omega,by omega,by rw[<-hd];exact U0 hc _,fun s' hs=>s.hP s' (Ny hs),by rw[(Uu ho).1,Lz];omega,by simp;omega,by rw[<-hM];simp,hQ,ho',?_,by omega,hb⟩⟩
  refine⟨by rw[Lz];omega,fun h0=>xA.ptr (by omega),fun j v hv => ?_,fun s hs=>xA.sz s (Ny hs)⟩
  rw[NO,LQ] at hv
  split at hv
  ·exact xA.rng j v hv
  ·cases hv
def LayJ(w:World)(p gr c:Nat)(M Q:LB)(a':Act)(w':World):Prop := ∃(h t f left:Nat) (d:BA) (A0 P':LB) (vm:Value) (ao:OA) (b len cap:Nat) (u11 u12 u13 u14 u15 u16 u17 u18 u19 u20 u21 u22 u23 u24 u25 u26 u27 u28 u29 u30 u31 u32 u33 u34 u35 u36 u37 u38 u39 u40 u41 u42 u43 u44 u45 u46 u47 u48 u49 u50 u51 u52 u53 u54 u55 u56 u57 u58:Value),
  a' = { tmps:=#[.pointer (some ⟨p,0,none⟩),.int .i64 (h:Int),.string d,undef,undef,undef,.slice none 0 0,vm,.int .u64 (gr:Int),.slice ao len cap,.int .u64 (left:Int),u11,u12,u13,u14,u15,u16,u17,u18,u19,u20,u21,u22,u23,u24,u25,u26,u27,u28,u29,u30,u31,u32,u33,u34,u35,u36,u37,u38,u39,u40,u41,u42,u43,u44,u45,u46,u47,u48,u49,u50,u51,u52,u53,u54,u55,u56,u57,u58,undef,undef,undef,undef,undef,undef,undef,undef,undef,undef,undef,undef,undef],defers:=[] } ∧
  At w w' c h t f left d A0 P' M Q vm ao b len cap
def muL(a':Act)(_:World):Nat:=slen (a'.tmps.getD 9 undef)
theorem Qmc(w:World)(ht:Tb w)(p:Nat)(v:Value)(k:Int)(n:Nat)(P:LB)(hr:Rg w p v k n P)(h:Nat)(hh:h<=40)(d:BA)(hd:d.size=clk k)(h0:n % 2^h=0)(gr:Nat)(hgr0:n+2^h=gr)(h1:gr<=1099511627776)(M Q:LB)(hM:Hid (mk (clk k) n P h d=(M,Q))) :
  Calls prog 251 #[.pointer (some ⟨p,0,none⟩),.int .i64 (h:Int),.string d] w fun e w' => ∃vm v',e = .returned vm∧Did w w' p v k gr Q vm M v':=by
 obtain⟨ao,b,xN,hv,xS,xF,yC⟩:=hr.rd;obtain⟨q,hq⟩:=Ze (2^h);have yA:n+q=gr:=by rw[<-hq];exact hgr0
 have HI:Hid (∀W,Calls prog 331 #[.int .i64 (h:Int)] W fun e w'=>e = .returned (.int .u64 (q:Int))∧w'=W):=fun W=>Qcx h W hh q hq
 have xM:IntKind.u64.wrap ((n:Int)+(q:Int))=(gr:Int):=by rw[Qd6 _ (by omega) (by omega)];omega
 have xG:Hid (∀W,Below w.heap.size w W->Rg W p v k n P):=fun W hb=>hr.next hb (La _)
 have xZ:Hid (∀W,Below w.heap.size w W->Tb W):=fun W hb=>ht.next hb
 have c1:=fun o=>(xG.out _ (bal (Lb _ _) o)).c1
 have c2:=fun o=>(xG.out _ (bal (Lb _ _) o)).c2
 rw[hv] at c2;have HS:Hid (At w (w.alloc (.cells #[.string d] 9)) (clk k) h (n / 2^h) (40 - h) n d [] P M Q (.slice (some ⟨w.heap.size,0,none⟩) 1 1) ao b P.length xN):=by
  have hn:=hr.hn;have yE:=Ib n (2^h);refine⟨rfl,by omega,?_,by omega,hd,hr.hs,hr.hl,Ll _,by rw[Nd];exact Lw Prod.fst hM.out,Lw Prod.snd hM.out,Qdz w d,xS,xF,bal (Lb _ _) _⟩
  rw[Nat.div_lt_iff_lt_mul (LJ h),<-Ix,show 40 - h+h=40 by omega]
  have:=LJ h;omega
 have HN:Hid (n<=1099511627776∧gr<=1099511627776∧Q.length=(hts gr).length∧(∀s∈Q,s.size=clk k)∧1<=k∧k<=32):=by
  have eQ:(Yd (clk k) (40 - h) (n / 2^h) P d).2=Q:=Lw Prod.snd hM.out;refine⟨hr.hn,h1,?_,?_,hr.k1,hr.k2⟩
  ·rw[<-eQ,QhL (clk k) 41 (40 - h) h (n / 2^h) P d (by omega) HS.out.ht (by rw[<-HS.out.hleft];exact hr.hl),<-HS.out.hleft,hgr0];rfl
  ·rw[<-eQ];exact(QfD (QO k) _ _ _ _ hr.hs hd).2
 have xW:Hid (p<w.heap.size):=hr.lt;have HV:=Qd hv;clear hM yA hgr0 hq h1 h0 hh ht hr xS xF yC hd
 go_enter func251,ntmps251;go_wp2;refine Qd9 0 (LayJ w p gr (clk k) M Q) muL rfl ?pass ?first
 case first =>
  intro HP;have xX:=Qd HP;clear HP;go_wp2
  go_quiet ((go_at_call 331;refine Calls.quiet_of_same (HI.out _)))
  go_wp2
  go_quiet (fail)
  go_wp2
  go_step3
  rename_i K0 hK0
  refine hK0 _ _ (xX.out _ _ ⟨h,n / 2^h,40 - h,n,d,[],P,_,ao,b,P.length,xN,_,_,_,_,_,_,_,_,_,_,_,_,_,_,_,_,_,_,_,_,_,_,_,_,_,_,_,_,_,_,_,_,_,_,_,_,_,_,_,_,_,_,_,_,_,_,_,_,rfl,HS.out.next ?_⟩)
  exact Qf (Qf (Lb _ _) _) _
 case pass =>
  clear HS HI xM c1 c2 h d;rintro a' w' ⟨h,t,f,xA,d,A0,P',vm,xH,b',xU,xB,u11,u12,u13,u14,u15,u16,u17,u18,u19,u20,u21,u22,u23,u24,u25,u26,u27,u28,u29,u30,u31,u32,u33,u34,u35,u36,u37,u38,u39,u40,u41,u42,u43,u44,u45,u46,u47,u48,u49,u50,u51,u52,u53,u54,u55,u56,u57,u58,rfl,xJ⟩;have HA:=Qd xJ;have xE:=xJ.lt;have xL:=Qd xE;clear xJ xE
  by_cases ho:t % 2=1
  ·have hh:h<=39:=by
    have h1:=HA.out.hf;have h2:=HA.out.ht
    apply N6
    intro h3;obtain rfl:f=0:=by omega
    simp at h2;omega
   have hT:tr 64 xA=h:=by
    rw[Qlj 64 h xA (by omega),HA.out.hleft,(U5 h t).2]
    exact⟨(U5 h t).1,ho⟩
   have HT:Hid (∀W,Calls prog 253 #[.int .u64 (xA:Int)] W fun e w'=>e = .returned (.int .i64 (h:Int))∧W=w'):=fun W=>(J0 xA W (by have:=xL.out;omega) h hT).mono fun _ _ h=>⟨h.1,h.2.symm⟩
   obtain⟨m,rfl⟩ : ∃m,xU=m+1:=by
    have h1:=HA.out.hl;rw[HA.out.hleft,QbI _ (by omega) ho,Lc,LF,HA.out.hlen] at h1
    exact⟨xU - 1,by omega⟩
   obtain⟨q,hq⟩:=Ze (2^h);obtain⟨l2,xP⟩:=Ze (xA - 2^h);obtain⟨h2,xO⟩:=Ze (h+1);have yD:q<=xA:=by
    rw[HA.out.hleft,<-hq];exact NI _ (by omega)
   have HI:Hid (∀W,Calls prog 331 #[.int .i64 (h:Int)] W fun e w'=>e = .returned (.int .u64 (q:Int))∧w'=W):=fun W=>Qcx h W (by omega) q hq
   have e1:IntKind.i64.wrap (m:Int)=(m:Int):=by
    have:=HA.out.hl;have:=JQ (fun h _=>h) 41 xA
    have:=HA.out.hlen;rw[Lr];omega
   have e2:IntKind.u64.wrap ((xA:Int) - (q:Int))=(l2:Int):=by
    have:=xL.out;rw[Qd6 _ (by omega) (by omega)];omega
   have e3:IntKind.i64.wrap ((h:Int)+1)=(h2:Int):=by rw[Lr];omega
   have i1:(m:Int)<(m:Int)+1:=by omega
   have i2:(0:Int)<=(m:Int):=Lf _;have i3:(m:Int)<=(xB:Int):=by have:=HA.out.cap;omega
   obtain rfl:=HA.out.rd.ptr (by omega)
   obtain⟨x,hx⟩:=Ze (P'.getD m ByteArray.empty);obtain⟨d',xI⟩ : ∃d',dg (clk k) (QV x d)=d':=⟨_,rfl⟩;have xV:Hid (∀W,Below w.heap.size w W->Calls prog 227 #[.int .i64 k,.string x,.string d] W fun e w'=>e = .returned (.string d')∧Below W.heap.size W w'):=fun W hb=>by
    have hc:=QO k;have z1:x.size=clk k:=by rw[<-hx];exact HA.out.hP _ (Y7 (by rw[HA.out.hlen];omega))
    have z2:=HA.out.hd;exact Ju W (xZ.out W hb) k x d (by omega) (by omega) d' xI
   have HK:Hid (∀W,Below w'.heap.size w' W->W.cell? ⟨p,0,none⟩=some (.int .i64 k)∧W.cell? ⟨b',m,none⟩=some (.string x)):=fun W hb=>by
    have c3:=(HA.out.rd.next (Qa HA.out.below hb) (La _)).at (k:=m) (by omega)
    rw[Lm,hx] at c3;exact⟨(xG.out W (Qa HA.out.below hb)).c0,c3⟩
   have HE:Hid (x=P'.getD m ByteArray.empty∧d'=dg (clk k) (QV x d)∧l2=xA - 2^h∧h2=h+1∧d'.size<=9223372036854775807∧A0.length<=40):=⟨hx.symm,xI.symm,xP.symm,xO.symm,by rw[<-xI,U0 (QO k)];have:=QO k;omega,by have:=HA.out.hA;omega⟩
   clear hT xP xO yD hx xI hq hh hv
   go_upto_region 6 with (go_at_call 253;with_reducible refine(HT.out _).mono ?_;rintro e w1 ⟨rfl,rfl⟩)
   obtain⟨y1,y2⟩:=HK.out w'.drew (Lb w'.heap.size w').drew;have hd:Below w'.heap.size w' w'.drew:=(Lb w'.heap.size w').drew
   go_region_held3 (fun w'=>w'.cell? ⟨p,0,none⟩=some (.int .i64 k)∧w'.cell? ⟨b',m,none⟩=some (.string x)) (first|assumption|(exact HK.out _ (Qa hd hb2))|(exact HK.out _ hd)) ((go_at_call 227;with_reducible refine(xV.out _ (Qa HA.out.below hd)).mono ?_;rintro e w2 ⟨rfl,hb2⟩))
   have xK:Hid (Below w'.heap.size w' w2):=Qa hd hb2;clear hb2 hd y1 y2
   go_wp2_with (at_builtin;refine QM _ rfl _ _ rfl w.heap.size _ (A0++[d]) rfl (Yr (Qv HA.out.own xK.out (La _)) _) (some ⟨w2.heap.size,0,none⟩) w2.heap.size 0 1 [d'] rfl (Uy w2 d' HE.out.2.2.2.2.1) (fun h=>by cases h) ?c1 ?c2 ?_)
   case c1=>have:=HE.out.2.2.2.2.2;simp;omega
   case c2=>have:=(Qa HA.out.below xK.out).size;simp;omega
   intro v3 w3 h3 hb3;have HX:Hid (Qi w3 w.heap.size v3 ((A0++[d])++[d'])∧Below w.heap.size w w3):=⟨by simpa using h3,(bal (Qa HA.out.below xK.out) _).trans hb3⟩
   clear h3 hb3;go_wp2
   go_quiet ((go_at_call 331;refine Calls.quiet_of_same (HI.out _)))
   go_wp2
   go_step3
   obtain⟨x1,x2,x3,x4,x5,x6⟩:=HE.out;obtain⟨f',hP⟩:=HA.out.pop (QO k) ho (by rw[<-x1];exact x2.symm) HX.out.2 HX.out.1
   rw[<-x3,<-x4] at hP;refine⟨rfl,⟨h2,t / 2,f',l2,d',A0++[d],P'.take m,_,_,b',m,xB,_,_,_,_,_,_,_,_,_,_,_,_,_,_,_,_,_,_,_,_,_,_,_,_,_,_,_,_,_,_,_,_,_,_,_,_,_,_,_,_,_,_,_,_,_,_,_,_,rfl,hP.next (Qf (Lb _ _) _)⟩,?_⟩
   show m<m+1
   omega
  ·have xR:tr 64 xA≠h:=by
    rw[Ne,Qlj 64 h xA (by have:=HA.out.hf;omega),HA.out.hleft,(U5 h t).2]
    exact fun h=>ho h.2
   obtain⟨T,hT⟩:=Ze (tr 64 xA);have HT:Hid (∀W,Calls prog 253 #[.int .u64 (xA:Int)] W fun e w'=>e = .returned (.int .i64 (T:Int))∧W=w'):=fun W=>(J0 xA W (by have:=xL.out;omega) T hT).mono fun _ _ h=>⟨h.1,h.2.symm⟩
   have yB : ¬((T:Int)=(h:Int)):=by rw[hT] at xR;omega
   obtain rfl:=HA.out.hlen;have HC:Hid (∀W,Calls prog 332 #[.slice xH P'.length xB] W fun e w'=>e = .returned (.slice xH P'.length P'.length)∧W=w'):=fun W=>(Qju W xH _ xB HA.out.cap).mono fun _ _ h=>⟨h.1,h.2.symm⟩
   have HL:Hid (P'.length<=1000):=by show _<=_;rw[HA.out.hl];have:=JQ (fun h _=>h) 41 xA;omega
   clear xR hT hv
   go_wp2_with (first
    | (go_at_call 253;with_reducible refine(HT.out _).mono ?_;rintro e w1 ⟨rfl,rfl⟩)
    | (go_at_call 332;with_reducible refine(HC.out _).mono ?_;rintro e w1 ⟨rfl,rfl⟩)
    | (at_builtin;refine Ox _ rfl _ _ rfl xH b' P' rfl (HA.out.rd.next (bal HA.out.below _) (La _)) ⟨w'.heap.size,0,none⟩ d rfl (by simp) HL.out ?_))
   intro v2 w3 h3 hb3;obtain⟨g2,xC,xT,_⟩:=QeO h3 (by simp)
   obtain⟨n2,xQ⟩:=Ze ((P'++[d]).length);rw[xQ] at xT;subst xT;clear xQ;have xD:Hid (Below w.heap.size w w3∧Below w'.heap.size w' w3∧Qi w3 w'.heap.size (.slice (some ⟨g2,0,none⟩) n2 xC) (P'++[d])):=⟨Qa HA.out.below ((bal (Lb w'.heap.size w') _).trans (hb3.mono (I3 _))),(bal (Lb w'.heap.size w') _).trans (hb3.mono (I3 _)),QN h3 (I3 _)⟩;clear h3 hb3;have R3:=xG.out w3 xD.out.1;have y1:=R3.c1;have y2:=R3.c2;have z1:=R3.fz 1;have z2:=R3.fz 2;have xY:=Qd R3;clear R3;go_wp2
   try simp only[Exit.jump]
   go_ret
   have xE:=xW.out;have yF:=HA.out.below.size;refine⟨vm,.slice (some ⟨g2,0,none⟩) n2 xC,rfl,⟨?_,?_,?_,?_,?_⟩⟩
   ·obtain⟨q1,q2,q3,q4,q5,q6⟩:=HN.out;have hQ:P'++[d]=Q:=by have:=HA.out.hQ;rw[YP ho] at this;exact this
    refine⟨?_,QN (Y9 (Y9 (by rw[<-hQ];exact xD.out.2.2) (by omega)) (by omega)) (Ll _),q5,q6,q2,q3,q4⟩
    have e1:=Lp w3 p 2 _ 234 (.slice (some ⟨g2,0,none⟩) n2 xC) xY.out.blk;have e2:=Lp _ p 1 _ 234 (.int .u64 (gr:Int)) e1;exact e2
   ·have hM:A0++[d]=M:=by have:=HA.out.hM;rw[YP ho] at this;exact this
    rw[<-hM];exact Y9 (Y9 (Qv HA.out.own xD.out.2.1 (La _)) xE) xE
   ·exact((Ch.of xD.out.1 xE).set 2 _).set 1 _
   ·right
    intro g hg;have:=(Ng xD.out.2.2 g hg).1;omega
   ·intro g xM hg2;have a1:=(Ng xD.out.2.2 g hg2).1;have a2:=(Ng HA.out.own g xM).2;omega
end Kp
end Go.Proofs.YtoblgjledefdbaaGreatDoor
