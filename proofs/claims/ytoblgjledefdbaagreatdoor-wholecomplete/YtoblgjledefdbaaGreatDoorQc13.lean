/- Own work. -/
import Derived.Test.YtoblgjledefdbaaGreatDoorQc12
set_option maxRecDepth 100000
set_option maxHeartbeats 1000000
namespace Go.Proofs.YtoblgjledefdbaaGreatDoor
open Go.RowKit
attribute [local go_sem ↓] Go.wp_at_zero Go.wp_at_succ
open Go.Proofs.Tryz
namespace St
theorem Ql{w:World}{B T s n:Nat}{v:Value}{xs:List Value}(h:w.ownsRow B T s v n xs):∃ao cap,v= .slice ao n cap:=by
 rcases h.2 with ⟨rfl,rfl⟩|⟨g,cap,cur,rfl,_⟩
 ·exact⟨none,0,rfl⟩
 ·exact⟨_,cap,rfl⟩
theorem QK{w w':World}{B T s n:Nat}{v:Value}{xs:List Value}(h:w.ownsRow B T s v n xs)(hk:∀g,v.ownBlock=some g->w'.heap[g]? = w.heap[g]?):w'.ownsRow B T s v n xs:=by
 obtain⟨h1,h2⟩:=h;refine⟨h1,?_⟩
 rcases h2 with h2|⟨g,cap,cur,hv,hg,hh,h3⟩
 ·exact .inl h2
 ·exact .inr ⟨g,cap,cur,hv,hg,(hk g (by rw[hv];rfl)).trans hh,h3⟩
end St
namespace St.Rc
theorem QmY{w:World}{B g n cap:Nat}{l:LB}(h:Qg w B (.slice (Zp g) n cap) l)(j:Nat)(s:BA):Qg (w.setCell ⟨g,j,none⟩ (.string s)) B (.slice (Zp g) n cap) (l.set j s):=by
 obtain⟨h1,h2⟩:=h;refine⟨by simp,.inr ?_⟩
 rcases h2 with ⟨h2,h3⟩|⟨g',cap',cur,hv,hg,hh,h3,h4,h5,h6⟩
 ·cases h2
 ·obtain⟨e1,e2,e3⟩:=Id hv
  cases e1;refine⟨g,cap,cur.setIfInBounds j (.string s),by rw[e2];simp,hg,Lp w g j cur _ _ hh,by simpa [e3] using h3,by omega,by simpa [e3] using h5,?_⟩
  have h7:(l.set j s).map Value.string=(l.map Value.string).set j (.string s):=by simp
  rw[h7,<-h6,IK,Array.toList_setIfInBounds,List.take_set]
end St.Rc
namespace St
open Rc
def cE(l:List Nat):List Value:=l.map fun(n:Nat)=>Value.int .i64 n
def OwnE(w:World)(B:Nat)(v:Value)(l:List Nat):Prop:=w.ownsRow B 3 1 v l.length (cE l)
theorem Tryz.infoE:(prog.info? 3).map (fun i=>(i.zero,i.size,i.bytes))=some (some (.int .i64 0),1,8):=by kernel_rfl
theorem Qkt(w:World)(B:Nat):OwnE w B (.slice none 0 0) []:=⟨rfl,.inl ⟨rfl,rfl⟩⟩
theorem JN{w:World}{B:Nat}{v:Value}{l:List Nat}(h:OwnE w B v l):∃ao cap,v= .slice ao l.length cap ∧ ∀j,j<l.length -> ∃g,v.ownBlock=some g∧ao=Zp g∧w.cell? ⟨g,j,none⟩=some (.int .i64 ((l.getD j 0:Nat):Int)):=by
 have hh:=h
 rcases h.2 with ⟨rfl,e⟩|⟨g,cap,cur,rfl,hg,hb,_⟩
 ·exact⟨none,0,by rw[e],fun j hj=>by omega⟩
 ·refine⟨_,cap,rfl,fun j hj=>⟨g,rfl,rfl,?_⟩⟩
  rw[World.ownsRow.cellAt hh j (by omega),cE,No,Lc,Ll hj]
  rfl
theorem JO{w:World}{B:Nat}{v:Value}{l:List Nat}(h:OwnE w B v l){g:Nat}(hg:v.ownBlock=some g):g<w.heap.size:=by
 rcases h.2 with ⟨rfl,e⟩|⟨g',cap,cur,rfl,_,hb,_⟩
 ·cases hg
 ·cases hg;exact(Array.getElem?_eq_some_iff.1 hb).1
structure Sto(w:World)(q p:Nat)(v:Value)(S:SV):Prop where
 blk:w.heap[q]? = some (.cells #[Pq p,.int .i64 S.k,v,.int .u32 S.chain.toNat,.bool S.lame] 169 (0,0))
 own:OwnE w 0 v S.ends
 k1:1<=S.k
 k2:S.k<=32
 few:S.ends.length<=65536
 low:∀e∈S.ends,e<=268435456
def Sk(w:World)(q p:Nat)(T:Nat->Prop)(D:DV)(S:SV):Prop :=
 ∃S0 v,Dsk w p S0 D∧Sto w q p v S ∧ ¬S0 q∧(∀g,v.ownBlock=some g->g≠q ∧ ¬S0 g) ∧ ∀x,T x↔S0 x∨x=q∨v.ownBlock=some x
section
variable {w W:World} {q p:Nat} {v:Value} {T:Nat->Prop} {D D':DV} {S S':SV}
theorem Sto.lt(h:Sto w q p v S):q<w.heap.size:=(Array.getElem?_eq_some_iff.1 h.blk).1
theorem Sto.same(h:Sto w q p v S)(hq:W.heap[q]? = w.heap[q]?)(hv:∀g,v.ownBlock=some g->W.heap[g]? = w.heap[g]?):Sto W q p v S :=
 ⟨hq.trans h.blk,QK h.own hv,h.k1,h.k2,h.few,h.low⟩
theorem Sk.lt(h:Sk w q p T D S){x:Nat}(hx:T x):x<w.heap.size:=by
 obtain⟨S0,v,h1,h2,h3,h4,h5⟩:=h
 rcases(h5 x).1 hx with e|rfl|e
 ·exact h1.lt e
 ·exact h2.lt
 ·exact JO h2.own e
theorem Sk.same(h:Sk w q p T D S)(hb:∀x,T x->W.heap[x]? = w.heap[x]?):Sk W q p T D S:=by
 obtain⟨S0,v,h1,h2,h3,h4,h5⟩:=h;exact⟨S0,v,h1.same (fun x hx=>hb x ((h5 x).2 (.inl hx))),h2.same (hb q ((h5 q).2 (.inr (.inl rfl)))) (fun g hg=>hb g ((h5 g).2 (.inr (.inr hg)))),h3,h4,h5⟩
theorem Sk.next(h:Sk w q p T D S)(hb:Below w.heap.size w W):Sk W q p T D S:=h.same fun x hx=>hb.block x (h.lt hx)
theorem YC{W:World}{q:Nat}{a b c d e:Value}{T:TypeId}(h:W.heap[q]? = some (.cells #[a,b,c,d,e] T (0,0))):W.cell? ⟨q,0,none⟩=some a∧W.cell? ⟨q,1,none⟩=some b∧W.cell? ⟨q,2,none⟩=some c∧W.cell? ⟨q,3,none⟩=some d∧W.cell? ⟨q,4,none⟩=some e :=
 ⟨by rw[cell_of_row W q 0 _ _ (0,0) h];rfl,by rw[cell_of_row W q 1 _ _ (0,0) h];rfl,by rw[cell_of_row W q 2 _ _ (0,0) h];rfl,by rw[cell_of_row W q 3 _ _ (0,0) h];rfl,by rw[cell_of_row W q 4 _ _ (0,0) h];rfl⟩
theorem Sk.cells(h:Sk w q p T D S):∃ao cap,(w.cell? ⟨q,0,none⟩=some (Pq p)∧w.cell? ⟨q,1,none⟩=some (.int .i64 S.k)∧w.cell? ⟨q,2,none⟩=some (.slice ao S.ends.length cap)∧w.cell? ⟨q,3,none⟩=some (.int .u32 S.chain.toNat)∧w.cell? ⟨q,4,none⟩=some (.bool S.lame)) ∧
  (∀j,j<S.ends.length -> ∃g,ao=Zp g∧w.cell? ⟨g,j,none⟩=some (.int .i64 ((S.ends.getD j 0:Nat):Int))):=by
 obtain⟨S0,v,h1,h2,h3,h4,h5⟩:=h;obtain⟨ao,cap,rfl,hc⟩:=JN h2.own;exact⟨ao,cap,YC h2.blk,fun j hj=>by obtain⟨g,_,e1,e2⟩:=hc j hj;exact⟨g,e1,e2⟩⟩
theorem Sk.seen(h:Sk w q p T D S):∃ao cap,∀W,Below w.heap.size w W->(W.cell? ⟨q,0,none⟩=some (Pq p)∧W.cell? ⟨q,1,none⟩=some (.int .i64 S.k)∧W.cell? ⟨q,2,none⟩=some (.slice ao S.ends.length cap)∧W.cell? ⟨q,3,none⟩=some (.int .u32 S.chain.toNat)∧W.cell? ⟨q,4,none⟩=some (.bool S.lame)):=by
 obtain⟨S0,v,h1,h2,h3,h4,h5⟩:=h;obtain⟨ao,cap,rfl,hc⟩:=JN h2.own;exact⟨ao,cap,fun W hW=>YC ((hW.block q h2.lt).trans h2.blk)⟩
theorem Sk.small(h:Sk w q p T D S):1<=S.k∧S.k<=32∧S.ends.length<=65536∧(∀i,S.ends.getD i 0<=268435456)∧(∀i,UN S.ends i<=268435456)∧lst S.ends<=268435456:=by
 obtain⟨S0,v,h1,h2,h3,h4,h5⟩:=h;have hg:∀i,S.ends.getD i 0<=268435456:=fun i=>by
  rw[Lc]
  by_cases hi:i<S.ends.length
  ·rw[Ll hi];exact h2.low _ (LZ _)
  ·rw[NQ (by omega)];simp
 have he:∀i,UN S.ends i<=268435456:=fun i=>by
  unfold UN
  split
  ·omega
  ·exact hg _
 exact⟨h2.k1,h2.k2,h2.few,hg,he,by rw[<-Qbc];exact he _⟩
theorem Sk.disk(h:Sk w q p T D S):∃S0,Dsk w p S0 D:=by
 obtain⟨S0,v,h1,_⟩:=h;exact⟨S0,h1⟩
def SkM(w w':World)(q p:Nat)(T:Nat->Prop)(D':DV)(S':SV):Prop := ∃T',Sk w' q p T' D' S'∧(∀x,T' x->T x∨w.heap.size<=x)∧Upo T w w'
theorem SkM.of(h:Sk w q p T D S)(hb:Below w.heap.size w W):SkM w W q p T D S:=⟨T,h.next hb,fun _ hx=> .inl hx,Upo.of hb⟩
theorem SkM.first{w1 w2:World}(hb:Below w.heap.size w w1)(h:SkM w1 w2 q p T D S):SkM w w2 q p T D S:=by
 obtain⟨T',h1,h2,h3⟩:=h;exact⟨T',h1,fun x hx=>(h2 x hx).imp id (fun e=>Lu hb.size e),(Upo.of hb).trans h3 (fun _ _ q=>q)⟩
theorem Qlb{S0:Nat->Prop}{v:Value}(h2:Sto w q p v S)(h3:¬S0 q)(h4:∀g,v.ownBlock=some g->g≠q ∧ ¬S0 g)(h5:∀x,T x↔S0 x∨x=q∨v.ownBlock=some x)(hm:Mvd w W p S0 D'):SkM w W q p T D' S:=by
 obtain⟨S1,m1,m2,m3⟩:=hm;refine⟨fun x=>S1 x∨x=q∨v.ownBlock=some x,⟨S1,v,m1,h2.same (m3.block q h2.lt h3) (fun g hg=>m3.block g (JO h2.own hg) (h4 g hg).2),fun hq=> ?_,fun g hg=>⟨(h4 g hg).1,fun e=> ?_⟩,fun _=>Iff.rfl⟩,fun x hx=> ?_,m3.mono (fun x _ hx=>(h5 x).2 (.inl hx))⟩
 ·rcases m2 q hq with e|e
  ·exact h3 e
  ·have:=h2.lt;omega
 ·rcases m2 g e with e|e
  ·exact(h4 g hg).2 e
  ·have:=JO h2.own hg;omega
 ·rcases hx with e|e
  ·exact(m2 x e).imp (fun e=>(h5 x).2 (.inl e)) id
  ·exact .inl ((h5 x).2 (.inr e))
def Rmy(D:DV):Prop:=D.acts+1<=4611686018427387904∧D.L.length<1099511627776∧D.free<=4611686018427387904
theorem Dsk.rmy{S0:Nat->Prop}(h:Dsk w p S0 D)(hr:Rmy D)(s:List UInt8):D.down=false->D.free+(Qh D.L s).now.length<=9223372036854775807:=fun _=>by
 obtain⟨m,R,ka,kb,ko,kc,h1,h2⟩:=h;have:(Qh D.L s).now.length<=268435456:=by
  by_cases hm:s∈QA D.L
  ·exact(h1.fil s hm (by simp)).b1
  ·rw[YF hm];exact Ln _
 have:=hr.2.2;omega
theorem Sk.write(h:Sk w q p T D S)(hr:Rmy D)(nm dt:BA)(hs:nm.size<=maxLen)(off:Int)(ho1 : -9223372036854775808<=off)(ho2:off<=9223372036854775807)(ht:dt.size<=140737488355328) :
  Calls prog 268 #[Pq p,.string nm,.int .i64 off,.string dt] w fun e w'=>e= .returned (.int .i64 (wrD D nm.data.toList off dt.data.toList).2)∧SkM w w' q p T (wrD D nm.data.toList off dt.data.toList).1 S:=by
 obtain⟨S0,v,h1,h2,h3,h4,h5⟩:=h;exact(h1.write nm dt hs off ho1 ho2 ht hr.1 hr.2.1 (h1.rmy hr _)).mono fun e w' z=>⟨z.1,Qlb h2 h3 h4 h5 z.2⟩
theorem Sk.sync(h:Sk w q p T D S)(hr:Rmy D)(nm:BA)(hs:nm.size<=maxLen) :
  Calls prog 157 #[Pq p,.string nm] w fun e w'=>e= .returned (.int .i64 (YI D nm.data.toList).2)∧SkM w w' q p T (YI D nm.data.toList).1 S:=by
 obtain⟨S0,v,h1,h2,h3,h4,h5⟩:=h;exact(h1.sync nm hs hr.1 hr.2.1 (h1.rmy hr _)).mono fun e w' z=>⟨z.1,Qlb h2 h3 h4 h5 z.2⟩
theorem Sk.read(h:Sk w q p T D S)(s:BA)(hs:s.size<=maxLen)(off y:Int)(ho1 : -9223372036854775808<=off)(ho2:off<=9223372036854775807)(hq1 : -9223372036854775808<=y)(hq2:y<=9223372036854775807) :
  Calls prog 152 #[Pq p,.string s,.int .i64 off,.int .i64 y] w fun e w'=>e= .returned (.tuple #[.string (tx (rdD D s.data.toList off y).1),.int .i64 (rdD D s.data.toList off y).2])∧Below w.heap.size w w':=by
 obtain⟨S0,h1⟩:=h.disk;exact h1.read s hs off y ho1 ho2 hq1 hq2
theorem Sk.size(h:Sk w q p T D S)(s:BA)(hs:s.size<=maxLen):Calls prog 151 #[Pq p,.string s] w fun e w'=>e= .returned (.int .i64 (sizD D s.data.toList:Int))∧w'=w:=by
 obtain⟨S0,h1⟩:=h.disk;exact h1.size s hs
theorem Sk.sz(h:Sk w q p T D S)(s:List UInt8):(Qh D.L s).now.length<=268435456:=by
 obtain⟨S0,h⟩:=h.disk;obtain⟨m,R,ka,kb,ko,kc,h1,h2⟩:=h
 by_cases hm:s∈QA D.L
 ·exact(h1.fil s hm (by simp)).b1
 ·rw[YF hm];exact Ln _
end
end St
namespace St.Pl
theorem Qe9(n k:Nat)(hn:n<2^64):(bits BinOp.and IntKind.u64 ((n:Int)/2^k) 1 == 1)=decide (n/2^k%2=1):=by
 have e:((n:Int)/2^k)=((n/2^k:Nat):Int):=by simp
 rw[e];have hm:n/2^k<18446744073709551616:=Is (NO _ _) hn
 revert hm
 generalize n/2^k=m;intro hm;have:=bits_and_u64_nat m 1 hm (by decide)
 rw[show(1:Int)=((1:Nat):Int) from rfl,this,IN]
 by_cases h:m%2=1
 ·simp[h]
 ·have:m%2=0:=by omega
  simp[this]
theorem YQ(n k:Nat)(w:World)(hn:n<2^64)(hk:k<64) :
  Calls prog 224 #[.int .u64 n,.int .i64 k] w fun e w'=>e= .returned (.bool (decide (n/2^k%2=1)))∧w'=w:=by
 have hk0:(0:Int)<=(k:Int):=Lh _
 go_enter func224,ntmps224;go_wp2
 go_ret
 refine⟨?_,rfl⟩
 rw[<-Qe9 n k hn]
 rfl
theorem UT(n:Nat)(w:World)(hn:n<2^64) :
  Calls prog 138 #[.int .u64 n] w fun e w'=>e= .returned (.int .i64 (Qv 64 n:Nat))∧w'=w:=by
 go_enter func138,ntmps138;go_wp2
 go_loopg [3,5] 64 (fun g c i wr=> ∃k m:Nat,k<=64∧g=64-k∧i= .int .i64 k∧c= .int .i64 m∧m<=k∧m+Qv (64-k) (n/2^k)=Qv 64 n∧w=wr)
 case atStart=>go_light;exact⟨0,0,Ln _,rfl,rfl,rfl,Ln _,by simp,rfl⟩
 case round=>
  obtain⟨k,m,hk,rfl,rfl,rfl,hm,hs,rfl⟩:=hrel;have hk0:(0:Int)<=(k:Int):=Lh _;have hm0:(0:Int)<=(m:Int):=Lh _;have hm1:(m:Int)<=64:=by omega
  by_cases hlt:k<64
  ·have hk8:(k:Int)<64:=by omega
   have HS:=Qak k n hlt;have HC:=YQ n k w hn hlt
   by_cases hb:n/2^k%2=1
   ·rw[LV hb] at HC
    go_wp2_with (go_at_call 224;refine HC.mono ?_;rintro e w' ⟨rfl,rfl⟩)
    go_roundg (64-(k+1))
    case rel=>go_light;exact⟨k+1,m+1,by omega,rfl,by go_num,by go_num,by omega,by omega,rfl⟩
    case measure=>go_light;omega
   ·rw[Lx hb] at HC
    go_wp2_with (go_at_call 224;refine HC.mono ?_;rintro e w' ⟨rfl,rfl⟩)
    go_roundg (64-(k+1))
    case rel=>go_light;exact⟨k+1,m,by omega,rfl,by go_num,rfl,by omega,by omega,rfl⟩
    case measure=>go_light;omega
  ·obtain rfl:k=64:=by omega
   clear hk hlt;go_wp2
   go_ret
   refine⟨?_,rfl⟩
   rw[<-hs]
   rfl
theorem Yi(n:Nat)(w:World)(hn:n<=2^40) :
  Calls prog 393 #[.int .u64 n] w fun e w'=>e= .returned (.int .u64 (N n:Nat))∧w'=w:=by
 have HC:=UT n w (by omega)
 have h1:=JM 64 n;have h2:=Qc9 64 n;have h3:=N_eq n;generalize N n=x at *;generalize Qv 64 n=y at *;obtain⟨d,hd⟩:∃d:Nat,2*n=d:=⟨_,rfl⟩;have e1:IntKind.u64.wrap (2*(n:Int))=(d:Int):=by rw[IntKind.wrap_u64];omega
 have e2:IntKind.u64.wrap (y:Int)=(y:Int):=by rw[IntKind.wrap_u64];omega
 have e3:IntKind.u64.wrap ((d:Int)-(y:Int))=(x:Int):=by rw[IntKind.wrap_u64];omega
 clear hn h1 h2 h3 hd
 go_enter func393,ntmps393
 go_wp2_with (go_at_call 138;refine HC.mono ?_;rintro e w' ⟨rfl,rfl⟩)
 go_ret
 exact⟨rfl,rfl⟩
theorem QhU(n:Nat)(w:World)(hn:n<=2^40) :
  Calls prog 328 #[.int .u64 n] w fun e w'=>e= .returned (.tuple #[.int .u64 (N n:Nat),.bool true])∧w'=w:=by
 have HC:=Yi n w hn;have ht:¬(1099511627776:Int)<(n:Int):=by omega
 generalize N n=x at *;clear hn
 go_enter func328,ntmps328
 go_wp2_with (go_at_call 393;refine HC.mono ?_;rintro e w' ⟨rfl,rfl⟩)
 go_ret2
 exact⟨rfl,rfl⟩
end St.Pl
namespace St.Rc
theorem QdR(W:World)(t:BA)(n:Nat)(hn:t.size=n):∃cap W',(convert 9 127 (.string t)).run prog W= .ok (.slice (Zp W.heap.size) n cap) W'∧n<=cap∧Byt W' W.heap.size t.data.toList∧Below W.heap.size W W'∧W.heap.size<W'.heap.size:=by
 subst hn;refine⟨_,_,run_bytes_of_string (P:=prog) W 9 127 5 t underlying9 underlying127 underlying5,?_,?_,?_,?_⟩
 ·have:=grownCap_ge W t.size 0 5;exact this
 ·exact QlN W.drew t _ _
 ·exact(Qi (Lb _ _) 1:Below W.heap.size W W.drew).alloc (La _) _
 ·simp
theorem QnR{B:Nat}{w W:World}(h:Below B w W):Below B w W.drew:=⟨h.os,h.tape,h.output,h.size,h.block⟩
theorem QeY(bs:BA):∀(n i:Nat) (r:List UInt8),bs.size-i=n->ByteArray.toList.loop bs i r=r.reverse++bs.data.toList.drop i:=by
 intro n
 induction n with
 | zero=>
  intro i r h;rw[ByteArray.toList.loop,Ld (by omega)]
  rw[Nk (by simp;exact(by omega:bs.size<=i)),Nd]
 | succ n ih=>
  intro i r h;have hi:i<bs.size:=by omega
  rw[ByteArray.toList.loop,Lm hi,ih (i+1) _ (by omega)]
  have hl:i<bs.data.toList.length:=by simp;exact hi
  rw[L8 hl,IB,LH];have:bs.get! i=bs.data.toList[i]:=by
   show bs.data[i]! = _
   have hi2:i<bs.data.size:=hi;rw[getElem!_pos bs.data i hi2];simp
  rw[this];rfl
theorem Qcu(bs:BA):bs.toList=bs.data.toList:=by
 rw[ByteArray.toList,QeY bs bs.size 0 [] rfl];rfl
theorem Qn9{x y:BA}(h:x≠y):(x.toList == y.toList)=false:=by
 rw[Qcu,Qcu];simp only[beq_eq_false_iff_ne,ne_eq];intro e;exact h (Wl (Array.toList_inj.1 e))
theorem QlI{x y:BA}(h:x=y):(x.toList == y.toList)=true:=by
 rw[h];simp
def rpT(s:List UInt8):BA×Nat×Int:=match rpay s with
 | some x=>(⟨x.toArray⟩,x.length+8,0)
 | none=>(⟨#[]⟩,0,180)
theorem Qdp{s:List UInt8}(h:rpay s=none):rpT s=(⟨#[]⟩,0,180):=by rw[rpT,h]
theorem Qdq{s x:List UInt8}(h:rpay s=some x):rpT s=(⟨x.toArray⟩,x.length+8,0):=by rw[rpT,h]
theorem OX(w:World)(s:BA)(hs:s.size<=9223372036854775807)(rt:BA)(rn:Nat)(re:Int)(h:rpT s.data.toList=(rt,rn,re)) :
  Calls prog 231 #[.string s] w fun e w'=>e= .returned (.tuple #[.string rt,.int .i64 rn,.int .i64 re])∧Below w.heap.size w w':=by
 by_cases h4:s.size<4
 ·have z1:(s.size:Int)<4:=by omega
  rw[Qdp (Ld (by rw[Qe];omega))] at h
  obtain⟨rfl,rfl,rfl⟩:(⟨#[]⟩:BA)=rt∧0=rn∧180=re:=by simpa using h
  go_enter func231,ntmps231;go_wp2;exact LK (v := .tuple #[.string ⟨#[]⟩,.int .i64 0,.int .i64 180]) (by simp[results,results231,go_sem]) rfl ⟨rfl,Lb _ _⟩
 have z1:¬(s.size:Int)<4:=by omega
 have z2:(4:Int)<=(s.size:Int):=by omega
 obtain⟨x4,hx4⟩:∃x,s.extract 0 4=x:=⟨_,rfl⟩;have hx4l:x4.data.toList=s.data.toList.take 4:=by rw[<-hx4,Oz]
 have hx4s:x4.size=4:=by rw[<-Qe,hx4l,LA,Qe];omega
 obtain⟨c4,w1,kb,_,hy4,hb1,_⟩:=QdR w x4 4 hx4s;rw[hx4l] at hy4;obtain⟨n,hn⟩:∃n,num (s.data.toList.take 4)=n:=⟨_,rfl⟩;have hn4:n<4294967296:=by rw[<-hn];exact Qkn _ 4 (by simp;omega)
 have HN:=Jc w1 w.heap.size 0 4 c4 _ hy4 (by simp;omega) (by decide) n (by rw[IE,Lr (by simp;omega)];exact hn)
 have z3:(s.size:Int)<=9223372036854775807:=by omega
 have hws:IntKind.u64.wrap (s.size:Int)=(s.size:Int):=by rw[IntKind.wrap_u64];omega
 have hw1:IntKind.u64.wrap (4+(n:Int))=4+(n:Int):=by rw[IntKind.wrap_u64];omega
 have hw2:IntKind.u64.wrap (4+(n:Int)+4)=4+(n:Int)+4:=by rw[IntKind.wrap_u64];omega
 by_cases hbig:n<=1048576∧n+8<=s.size
 ·obtain⟨g1,g2⟩:=hbig;have y1:¬(n:Int) > 1048576:=by omega
  have y2:¬(s.size:Int)<4+(n:Int)+4:=by omega
  have y3:IntKind.i64.wrap (n:Int)=(n:Int):=by rw[Lz];omega
  obtain⟨N,hN⟩:∃N,n+8=N:=⟨_,rfl⟩;have y4:(4:Int)+(n:Int)+4=(N:Int):=by omega
  have y5:(0:Int)<=(N:Int):=by omega
  have y6:(N:Int)<=(s.size:Int):=by omega
  have y7:(n:Int)<=1048576:=by omega
  obtain⟨x8,hx8⟩:∃x,s.extract 0 N=x:=⟨_,rfl⟩;have hx8l:x8.data.toList=s.data.toList.take N:=by rw[<-hx8,Oz]
  have hx8s:x8.size=N:=by rw[<-Qe,hx8l,LA,Qe];omega
  obtain⟨c8,w2,kb2,hc8,hy8,hb2,hlt8⟩:=QdR w1 x8 N hx8s;rw[hx8l] at hy8;obtain⟨o,ho⟩:∃o,(if N-4=4 then 0 else 4)=o:=⟨_,rfl⟩
  have HPP:Hid (Calls prog 263 #[.slice (Zp w1.heap.size) N c8] w2 fun e w'=>e= .returned (.tuple #[.slice (Zp w1.heap.size) 4 4,.slice (some ⟨w1.heap.size,o,none⟩) n n])∧Below w2.heap.size w2 w') :=
   QbE w2 w1.heap.size N c8 (by omega) hc8 (by omega) o ho n (by omega)
  obtain⟨t8,ht8⟩:∃t:BA,(⟨(sld (s.data.toList.take (n+4))).toArray⟩:BA)=t:=⟨_,rfl⟩;have htt:(s.data.toList.take N).take (N-4)=s.data.toList.take (n+4):=by rw[Wd];congr 1;omega
  have HPC:Hid (pay ((s.data.toList.drop 4).take n)=sld (s.data.toList.take (n+4))):=Qm0 s.data.toList n (by rw[Qe];omega) hn (by rw[Qe];omega)
  obtain⟨v,hv⟩:∃v:BA,(⟨(((sld (s.data.toList.take (n+4))).drop 4).take n).toArray⟩:BA)=v:=⟨_,rfl⟩;have HV:Hid ((⟨((s.data.toList.drop 4).take n).toArray⟩:BA)=v):=by
   show _=_
   rw[<-hv]
   congr 2
   rw[sld,L9 (by simp;omega),LG (by simp;omega),List.drop_take,Wd,Ix (by omega)]
  have HSE:Hid (∀W,Below w2.heap.size w2 W->Calls prog 265 #[.slice (Zp w1.heap.size) N c8] W fun e w'=>e= .returned (.string t8)∧(convert 127 9 (.slice (some ⟨w1.heap.size,o,none⟩) n n)).run prog w'= .ok (.string v) w'∧Below w.heap.size w w'):=fun W hb=>by
   have hy:=hy8.next hb hlt8;refine(Jg W w1.heap.size N c8 _ hy (by simp;omega) (by omega) hc8 (by omega) t8 (by rw[htt];exact ht8)).mono ?_
   rintro e w' ⟨rfl,hz,hup⟩;rw[htt] at hz;refine⟨rfl,hz.conv (k:=4) (n:=n) (by rw[JR];simp;omega) o (fun h0=>by rw[<-ho,Ld (by omega)]) n v hv,hup.since (Qa hb1 (Qa hb2 hb)) hb1.size⟩
  have HRP:Hid ((⟨(s.data.toList.take N).toArray⟩:BA)=x8):=by show _=_;rw[<-hx8l]
  by_cases heq:t8=x8
  ·have hbq:=QlI heq;have hre:rpay s.data.toList=some ((s.data.toList.drop 4).take n):=by
    unfold rpay;rw[hn];refine Lm ⟨by rw[Qe];omega,g1,by rw[Qe];exact g2,?_⟩
    rw[HPC.out,hN];have:=LW (fun z:BA=>z.data.toList) (ht8.trans (heq.trans HRP.out.symm))
    simpa using this
   rw[Qdq hre] at h;have hlen:((s.data.toList.drop 4).take n).length=n:=by simp;omega
   rw[hlen,HV.out,hN] at h;obtain⟨rfl,rfl,rfl⟩:v=rt∧N=rn∧0=re:=by simpa using h
   clear hy4 hx4s hx4l h hn hx8l hx8s ho ht8 htt hv heq hre hlen hy8 hN
   go_enter func231,ntmps231
   go_upto_region 9 with (first
    | (go_at_call 321;with_reducible refine HN.mono ?_;rintro e w3 ⟨rfl,rfl⟩)
    | (go_at_call 263;with_reducible refine HPP.out.mono ?_;rintro e w4 ⟨rfl,hb4⟩))
   go_region_with (go_at_call 265;with_reducible refine(HSE.out _ (QnR hb4)).mono ?_;rintro e w5 ⟨rfl,kc,hb5⟩)
   go_wp2;exact LK (v := .tuple #[.string v,.int .i64 N,.int .i64 0]) (by simp[results,results231,go_sem]) rfl ⟨rfl,hb5⟩
  ·have hbq:=Qn9 heq;have hno:rpay s.data.toList=none:=by
    unfold rpay;rw[hn];refine Ld fun q=>heq ?_
    have q4:=q.2.2.2;rw[HPC.out,hN] at q4;rw[<-ht8,q4,HRP.out]
   rw[Qdp hno] at h;obtain⟨rfl,rfl,rfl⟩:(⟨#[]⟩:BA)=rt∧0=rn∧180=re:=by simpa using h
   clear hy4 hx4s hx4l h hn hx8l hx8s ho ht8 htt hv heq hno hy8 hN
   go_enter func231,ntmps231
   go_upto_region 9 with (first
    | (go_at_call 321;with_reducible refine HN.mono ?_;rintro e w3 ⟨rfl,rfl⟩)
    | (go_at_call 263;with_reducible refine HPP.out.mono ?_;rintro e w4 ⟨rfl,hb4⟩))
   go_region_with (go_at_call 265;with_reducible refine(HSE.out _ (QnR hb4)).mono ?_;rintro e w5 ⟨rfl,kc,hb5⟩)
   go_wp2;exact LK (v := .tuple #[.string ⟨#[]⟩,.int .i64 0,.int .i64 180]) (by simp[results,results231,go_sem]) rfl ⟨rfl,hb5⟩
 ·have hno:rpay s.data.toList=none:=by
   unfold rpay;rw[hn,Qe];exact Ld (fun q=>hbig ⟨q.2.1,q.2.2.1⟩)
  rw[Qdp hno] at h;obtain⟨rfl,rfl,rfl⟩:(⟨#[]⟩:BA)=rt∧0=rn∧180=re:=by simpa using h
  by_cases hb2:n<=1048576
  ·have g1:¬(n:Int) > 1048576:=by omega
   have g2:(s.size:Int)<4+(n:Int)+4:=by omega
   clear hy4 hx4s hx4l hbig h hn hno
   go_enter func231,ntmps231
   go_wp2_with (go_at_call 321;with_reducible refine HN.mono ?_;rintro e w2 ⟨rfl,rfl⟩)
   exact LK (v := .tuple #[.string ⟨#[]⟩,.int .i64 0,.int .i64 180]) (by simp[results,results231,go_sem]) rfl ⟨rfl,hb1⟩
  ·have g1:(n:Int) > 1048576:=by omega
   clear hy4 hx4s hx4l hbig h hn hno
   go_enter func231,ntmps231
   go_wp2_with (go_at_call 321;with_reducible refine HN.mono ?_;rintro e w2 ⟨rfl,rfl⟩)
   exact LK (v := .tuple #[.string ⟨#[]⟩,.int .i64 0,.int .i64 180]) (by simp[results,results231,go_sem]) rfl ⟨rfl,hb1⟩
end St.Rc
namespace St
open Rc
section
variable {q p:Nat} {T:Nat->Prop} {D:DV} {S:SV}
theorem QW(w:World)(h:Sk w q p T D S):Calls prog 74 #[Pq q] w fun e w'=>e= .returned (.int .u64 S.ends.length)∧w'=w:=by
 obtain⟨ao,cap,⟨c0,c1,c2,c3,c4⟩,_⟩:=h.cells;obtain⟨_,_,hf,_⟩:=h.small;have hw:IntKind.u64.wrap (S.ends.length:Int)=(S.ends.length:Int):=Us _ (by omega) (by omega)
 generalize S.ends.length=n at *;clear h
 go_enter func74,ntmps74;go_wp2
 go_ret
 exact⟨rfl,rfl⟩
theorem Qb6(w:World)(h:Sk w q p T D S)(n:Nat)(hn:n<=S.ends.length):Calls prog 142 #[Pq q,.int .i64 n] w fun e w'=>e= .returned (.int .i64 (UN S.ends n:Int))∧w'=w:=by
 obtain⟨ao,cap,⟨c0,c1,c2,c3,c4⟩,hc⟩:=h.cells;obtain⟨_,_,hf,_⟩:=h.small;clear h
 cases n with
 | zero=>
  go_enter func142,ntmps142;go_wp2
  go_ret
  exact⟨rfl,rfl⟩
 | succ n=>
  obtain⟨g,rfl,hg⟩:=hc n (by omega)
  have e1:UN S.ends (n+1)=S.ends.getD n 0:=rfl;rw[e1];have hz:¬((n:Int)+1=0):=by omega
  have hm:IntKind.i64.wrap ((n:Int)+1-1)=(n:Int):=by rw[Lz];omega
  generalize S.ends.getD n 0=x at *;generalize S.ends.length=m at *;clear hc e1
  go_enter func142,ntmps142;go_wp2
  go_ret
  exact⟨rfl,rfl⟩
theorem YX(w:World)(n:Nat)(hn:n<=65537):Calls prog 245 #[.int .i64 n] w fun e w'=>e= .returned (.int .u64 (nn n:Int))∧w'=w:=by
 have HC:=Qd (Pl.QhU n w (by omega))
 have hw:IntKind.u64.wrap (n:Int)=(n:Int):=Us _ (by omega) (by omega)
 go_enter func245,ntmps245
 go_wp2_with (go_at_call 328;refine HC.out.mono ?_;rintro e w1 ⟨rfl,rfl⟩)
 go_ret
 exact⟨rfl,rfl⟩
theorem Qcf(n:Nat):nn n<=2*n:=by unfold nn Pl.N;omega
theorem Uc(w:World)(h:Sk w q p T D S):Calls prog 155 #[Pq q,.string ⟨#[105,116,101,109,115]⟩] w fun e w'=>e= .returned (.int .i64 (lst S.ends:Int))∧w'=w:=by
 obtain⟨ao,cap,⟨c0,c1,c2,c3,c4⟩,hc⟩:=h.cells;have HE:=Qd (Qb6 w h S.ends.length (La _));rw[Qbc] at HE;generalize S.ends.length=n at *;clear h hc
 go_enter func155,ntmps155
 go_wp2_with (go_at_call 142;refine HE.out.mono ?_;rintro e w1 ⟨rfl,rfl⟩)
 go_ret
 exact⟨rfl,rfl⟩
theorem OI(w:World)(h:Sk w q p T D S):Calls prog 155 #[Pq q,.string ⟨#[110,111,100,101,115]⟩] w fun e w'=>e= .returned (.int .i64 ((nn S.ends.length*40:Nat):Int))∧w'=w:=by
 obtain⟨ao,cap,⟨c0,c1,c2,c3,c4⟩,hc⟩:=h.cells;obtain⟨_,_,hf,_⟩:=h.small;have HN:=Qd (YX w S.ends.length (by omega))
 have hb:=Qcf S.ends.length;generalize S.ends.length=n at *;generalize nn n=m at *;have h1:IntKind.i64.wrap (m:Int)=(m:Int):=by rw[Lz];omega
 have h2:IntKind.i64.wrap ((m:Int)*40)=((m*40:Nat):Int):=by rw[Lz];omega
 clear h hc
 go_enter func155,ntmps155
 go_wp2_with (go_at_call 245;refine HN.out.mono ?_;rintro e w1 ⟨rfl,rfl⟩)
 go_ret
 exact⟨rfl,rfl⟩
theorem OH(w:World)(h:Sk w q p T D S):Calls prog 155 #[Pq q,.string ⟨#[109,97,114,107,115]⟩] w fun e w'=>e= .returned (.int .i64 ((S.ends.length*64:Nat):Int))∧w'=w:=by
 obtain⟨ao,cap,⟨c0,c1,c2,c3,c4⟩,hc⟩:=h.cells;obtain⟨_,_,hf,_⟩:=h.small;generalize S.ends.length=m at *;have h2:IntKind.i64.wrap ((m:Int)*64)=((m*64:Nat):Int):=by rw[Lz];omega
 clear h hc
 go_enter func155,ntmps155;go_wp2
 go_ret
 exact⟨rfl,rfl⟩
theorem QeF(D:DV)(s:List UInt8)(off n:Int):(rdD D s off n).2=0∨(rdD D s off n).2=170∨(rdD D s off n).2=173:=by
 unfold rdD
 split
 ·exact .inr (.inl rfl)
 ·split
  ·exact .inr (.inr rfl)
  ·exact .inl rfl
theorem QhB(w:World)(h:Sk w q p T D S)(s:BA)(hs:s.size<=maxLen)(off y:Int)(ho1 : -9223372036854775808<=off)(ho2:off<=9223372036854775807)(hq1 : -9223372036854775808<=y)(hq2:y<=9223372036854775807)(t:BA)(r:Int)(ht:tx (rdS D s.data.toList off y).1=t)(hr:(rdS D s.data.toList off y).2=r) :
  Calls prog 143 #[Pq q,.string s,.int .i64 off,.int .i64 y] w fun e w'=>e= .returned (.tuple #[.string t,.int .i64 r])∧Below w.heap.size w w':=by
 obtain⟨ao,cap,⟨c0,c1,c2,c3,c4⟩,hc⟩:=h.cells;have HR:=Qd (h.read s hs off y ho1 ho2 hq1 hq2);unfold rdS at ht hr;obtain⟨x,e,hx⟩:∃x e,rdD D s.data.toList off y=(x,e):=⟨_,_,rfl⟩;have he:=QeF D s.data.toList off y;rw[hx] at ht hr HR he;clear h hc hx
 by_cases h3:e=173
 ·subst h3;simp only[if_pos] at ht hr;subst ht hr
  go_enter func143,ntmps143
  go_wp2_with (go_at_call 152;refine HR.out.mono ?_;rintro e w1 ⟨rfl,hb⟩)
  go_ret2
  exact⟨rfl,hb⟩
 ·simp only[if_neg h3] at ht hr;subst ht hr
  go_enter func143,ntmps143
  go_wp2_with (go_at_call 152;refine HR.out.mono ?_;rintro e w1 ⟨rfl,hb⟩)
  go_ret2
  exact⟨rfl,hb⟩
def whT(s:List UInt8):BA:=(rpT s).1
theorem Qiw(w:World)(s:BA)(hs:s.size<=9223372036854775807)(b:Bool)(hb:whl s.data.toList=b)(t:BA)(ht:whT s.data.toList=t) :
  Calls prog 144 #[.string s] w fun e w'=>e= .returned (.tuple #[.string t,.bool b])∧Below w.heap.size w w':=by
 have hl:=Qe s;unfold whT at ht;unfold whl at hb
 cases hp:rpay s.data.toList with
 | none=>
  rw[hp] at hb;have e1:=Qdp hp;rw[e1] at ht;subst ht hb;have HR:=Qd (OX w s hs _ _ _ e1)
  go_enter func144,ntmps144
  go_wp2_with (go_at_call 231;refine HR.out.mono ?_;rintro e w1 ⟨rfl,hb⟩)
  go_ret2
  exact⟨rfl,hb⟩
 | some x=>
  rw[hp] at hb;have e1:=Qdq hp;rw[e1] at ht;subst ht;have HR:=Qd (OX w s hs _ _ _ e1);have e2:(((x.length+8:Nat):Int) == (s.size:Int))=b:=by
   rw[<-hb,hl];exact Bool.eq_iff_iff.2 (by simp;omega)
  generalize x.length+8=m at *;generalize s.size=n at *
  go_enter func144,ntmps144
  go_wp2_with (go_at_call 231;refine HR.out.mono ?_;rintro e w1 ⟨rfl,hb⟩)
  go_ret2
  exact⟨by simp_all,hb⟩
end
section
variable {q p:Nat} {T:Nat->Prop} {D:DV} {S:SV}
theorem Qm3(D:DV)(s:List UInt8)(off n:Int):(rdD D s off n).1.length<=(Qh D.L s).now.length:=by
 unfold rdD
 split
 ·exact Ln _
 ·split
  ·exact Ln _
  ·simp only[List.length_take,List.length_drop];omega
theorem Qm5(D:DV)(s:List UInt8)(off n:Int):(rdS D s off n).1.length<=(Qh D.L s).now.length:=by
 unfold rdS
 split
 ·exact Ln _
 ·exact Qm3 _ _ _ _
theorem Qm4(D:DV)(s:List UInt8)(off n:Int):(rdS D s off n).2=0∨(rdS D s off n).2=170∨(rdS D s off n).2=190:=by
 unfold rdS
 rcases QeF D s off n with h|h|h
 ·rw[Ld (by omega)];exact .inl h
 ·rw[Ld (by omega)];exact .inr (.inl h)
 ·rw[Lm h];exact .inr (.inr rfl)
theorem QnI{s:List UInt8}(h:whl s=true):whT s=tx ((rpay s).getD []):=by
 unfold whl at h;unfold whT
 cases hp:rpay s with
 | none=>rw[hp] at h;cases h
 | some x=>rw[Qdq hp];rfl
theorem QjR(w:World)(h:Sk w q p T D S)(i:Nat)(hi:i<18446744073709551616)(t:BA)(r:Int)(ht:tx (JY D S i).1=t)(hr:(JY D S i).2=r) :
  Calls prog 84 #[Pq q,.int .u64 i] w fun e w'=>e= .returned (.tuple #[.string t,.int .i64 r])∧Below w.heap.size w w':=by
 obtain⟨ao,cap,⟨c0,c1,c2,c3,c4⟩,hc⟩:=h.cells;obtain⟨_,_,hf,hg,he,_⟩:=h.small;have HS:=Qd (QW w h);unfold JY at ht hr
 by_cases hlt:S.ends.length<=i
 ·rw[Lm hlt] at ht hr;subst ht hr;have hd:((S.ends.length:Int)<=(i:Int)):=by omega
  generalize S.ends.length=n at *;clear h hc hg he
  go_enter func84,ntmps84
  go_wp2_with (go_at_call 74;refine HS.out.mono ?_;rintro e w1 ⟨rfl,rfl⟩)
  go_ret2
  exact⟨rfl,Lb _ _⟩
 ·rw[Ld hlt] at ht hr;have hd:¬((S.ends.length:Int)<=(i:Int)):=by omega
  have hd2:(i:Int)<(S.ends.length:Int):=by omega
  obtain⟨g,rfl,cg⟩:=hc i (by omega)
  have HE:=Qd (Qb6 w h i (by omega))
  have hgi:=hg i;have hei:=he i;have HR:Hid (∀t r,tx (OE D S i).1=t->(OE D S i).2=r->Calls prog 143 #[Pq q,.string ⟨#[105,116,101,109,115]⟩,.int .i64 (UN S.ends i:Int),.int .i64 ((S.ends.getD i 0:Int)-(UN S.ends i:Int))] w fun e w'=>e= .returned (.tuple #[.string t,.int .i64 r])∧Below w.heap.size w w'):=fun t r h1 h2=>QhB w h ⟨#[105,116,101,109,115]⟩ (by decide) _ _ (by omega) (by omega) (by omega) (by omega) t r h1 h2
  have hz:(OE D S i).1.length<=268435456:=Lu (Qm5 _ _ _ _) (h.sz _);have hee:(OE D S i).2=0∨(OE D S i).2=170∨(OE D S i).2=190:=Qm4 _ _ _ _;generalize OE D S i=x at *;have hw1:IntKind.i64.wrap (i:Int)=(i:Int):=by rw[Lz];omega
  have hw2:IntKind.i64.wrap ((S.ends.getD i 0:Int)-(UN S.ends i:Int))=(S.ends.getD i 0:Int)-(UN S.ends i:Int):=by rw[Lz];omega
  clear hg he hc h;generalize S.ends.getD i 0=a at *;generalize UN S.ends i=b at *;generalize S.ends.length=n at *;obtain⟨xl,xe⟩:=x;simp only at ht hr hee hz HR
  by_cases h0:xe=0
  ·subst h0;simp only[ne_eq,not_true_eq_false,if_false] at ht hr;have HR2:=Qd (HR.out _ _ rfl rfl);have HW:Hid (∀W b,whl xl=b->Calls prog 144 #[.string (tx xl)] W fun e w'=>e= .returned (.tuple #[.string (whT xl),.bool b])∧Below W.heap.size W w'):=fun W b hb=>Qiw W (tx xl) (by rw[Ji];omega) b hb _ rfl
   clear HR
   by_cases hwh:whl xl=true
   ·simp only[hwh,if_true] at ht hr;subst ht hr;have HW2:=Qd (fun W=>HW.out W _ hwh)
    rw[QnI hwh] at HW2;clear HW
    go_enter func84,ntmps84
    go_wp2_with (first
     | (go_at_call 74;refine HS.out.mono ?_;rintro e w1 ⟨rfl,rfl⟩)
     | (go_at_call 142;refine HE.out.mono ?_;rintro e w1 ⟨rfl,rfl⟩)
     | (go_at_call 143;refine HR2.out.mono ?_;rintro e w2 ⟨rfl,u2⟩)
     | (go_at_call 144;refine(HW2.out _).mono ?_;rintro e w3 ⟨rfl,u3⟩))
    go_ret2
    exact⟨rfl,Qa u2 u3⟩
   ·rw[Ld hwh] at ht hr;subst ht hr;have HW2:=Qd (fun W=>HW.out W _ (Bool.eq_false_iff.2 hwh))
    clear HW
    go_enter func84,ntmps84
    go_wp2_with (first
     | (go_at_call 74;refine HS.out.mono ?_;rintro e w1 ⟨rfl,rfl⟩)
     | (go_at_call 142;refine HE.out.mono ?_;rintro e w1 ⟨rfl,rfl⟩)
     | (go_at_call 143;refine HR2.out.mono ?_;rintro e w2 ⟨rfl,u2⟩)
     | (go_at_call 144;refine(HW2.out _).mono ?_;rintro e w3 ⟨rfl,u3⟩))
    go_ret2
    exact⟨rfl,Qa u2 u3⟩
  ·rw[Lm h0] at ht hr;subst ht hr;have HR2:=Qd (HR.out _ _ rfl rfl);clear HR
   go_enter func84,ntmps84
   go_wp2_with (first
    | (go_at_call 74;refine HS.out.mono ?_;rintro e w1 ⟨rfl,rfl⟩)
    | (go_at_call 142;refine HE.out.mono ?_;rintro e w1 ⟨rfl,rfl⟩)
    | (go_at_call 143;refine HR2.out.mono ?_;rintro e w2 ⟨rfl,u2⟩))
   go_ret2
   exact⟨rfl,u2⟩
end
section
variable {q p:Nat} {T:Nat->Prop} {D:DV} {S:SV}
theorem Qc1(n:Nat)(h:n<=65536):nn n<=nn (n+1)∧nn (n+1)<=131074∧nn (n+1)<=nn n+41:=by
 have hb:=Qcf (n+1);unfold nn at hb ⊢;obtain⟨t,h40,h1,h2⟩:∃t,t<=40∧n%Pl.pw t=Pl.pw t-1 ∧ ¬n/Pl.pw t%2=1:=by
  suffices hh:∀f t,t+f=40->n%Pl.pw t=Pl.pw t-1 -> ∃t,t<=40∧n%Pl.pw t=Pl.pw t-1 ∧ ¬n/Pl.pw t%2=1 from hh 40 0 rfl (by rw[Pl.UB];omega)
  intro f
  induction f with
  | zero=>intro t ht h0;exact⟨t,by omega,h0,by rw[N8 (Lv (show n<2^20 by omega) (Pl.J3 (a:=20) (by omega)))];decide⟩
  | succ f ih=>
   intro t ht h0
   by_cases ho:n/Pl.pw t%2=1
   ·exact ih (t+1) (by omega) (Pl.QbT t n h0 ho)
   ·exact⟨t,by omega,h0,ho⟩
 rw[Pl.new_N t n h1 h2 (by omega)] at hb ⊢
 omega
theorem Qc4(S:SV)(ds:LB):nxt S ds=true↔ds.length=nn (S.ends.length+1)-nn S.ends.length ∧ ∀d∈ds,d.size=S.k:=by
 simp[nxt]
theorem Qay(w:World)(h:Sk w q p T D S)(hfew:S.ends.length<65536)(ao:OA)(b off len cap:Nat)(ds:LB)(hr:RdS w ao b off len ds)(hmx:len<=9223372036854775807)(r:Bool)(hR:nxt S ds=r) :
  Calls prog 262 #[Pq q,.slice ao len cap] w fun e w'=>e= .returned (.bool r)∧w'=w:=by
 obtain⟨ea,ec,⟨c0,c1,c2,c3,c4⟩,_⟩:=h.cells;obtain⟨hk1,hk2,hf,_⟩:=h.small;have hm:=Qc1 S.ends.length hf;have HN:Hid (Calls prog 245 #[.int .i64 S.ends.length] w fun e w'=>e= .returned (.int .u64 (nn S.ends.length:Int))∧w'=w):=YX w S.ends.length (by omega)
 have HN1:Hid (Calls prog 245 #[.int .i64 ((S.ends.length:Int)+1)] w fun e w'=>e= .returned (.int .u64 (nn (S.ends.length+1):Int))∧w'=w):=by
  have:=YX w (S.ends.length+1) (by omega)
  rw[Wv] at this;exact this
 have hx:nxt S ds=true↔len=nn (S.ends.length+1)-nn S.ends.length ∧ ∀d∈ds,d.size=S.k:=by rw[Qc4,hr.hl]
 clear h;generalize nxt S ds=x0 at *;subst hR;generalize nn (S.ends.length+1)=m1 at *;generalize nn S.ends.length=m0 at *;generalize S.k=k at *;generalize S.ends.length=n at *;have e1:IntKind.i64.wrap ((n:Int)+1)=(n:Int)+1:=by rw[Lz];omega
 have e2:IntKind.u64.wrap (len:Int)=(len:Int):=Us _ (by omega) (by omega)
 have e3:IntKind.u64.wrap ((m1:Int)-(m0:Int))=((m1-m0:Nat):Int):=by rw[Us _ (by omega) (by omega)];omega
 by_cases hl:len=m1-m0
 ·have hd:(((len:Int)) != ((m1-m0:Nat):Int))=false:=by simp[hl]
  have hd2:((len:Int))=((m1-m0:Nat):Int):=by omega
  generalize m1-m0=m at *;subst hl
  go_enter func262,ntmps262
  go_wp2_with (go_at_call 245;first|((with_reducible refine HN.out.mono ?_);rintro e w1 ⟨rfl,rfl⟩)|((with_reducible refine HN1.out.mono ?_);rintro e w1 ⟨rfl,rfl⟩))
  go_loopg [25] len (fun g x wr=> ∃j:Nat,j<=len∧g=len-j∧x= .int .i64 j∧Hid (∀d∈ds.take j,d.size=k)∧wr=w1)
  case atStart=>go_light;exact⟨0,Ln _,rfl,rfl,fun d hd=>by simp at hd,rfl⟩
  case round=>
   obtain⟨j,hj,rfl,rfl,HA,rfl⟩:=hrel
   by_cases hlt:j<len
   ·have hz:(j:Int)<(len:Int):=by omega
    obtain rfl:=hr.ptr (by omega)
    have ck:=hr.at hlt;have hw:IntKind.i64.wrap ((j:Int)+1)=(j:Int)+1:=by rw[Lz];omega
    obtain⟨d,hd0⟩:∃d,ds.getD j ByteArray.empty=d:=⟨_,rfl⟩;have hds:j<ds.length:=by rw[hr.hl];exact hlt
    have hdm:d∈ds:=by rw[<-hd0,Lc,Ll hds];exact LZ _
    have htk:ds.take (j+1)=ds.take j++[d]:=by rw[<-hd0,L4 hds,Lc,Ll hds];rfl
    rw[hd0] at ck
    by_cases he:d.size=k
    ·have hd3:((d.size:Int) != (k:Int))=false:=by simp[he]
     have hd4:(d.size:Int)=(k:Int):=by omega
     have HA2:Hid (∀d∈ds.take (j+1),d.size=k):=fun y hy=>by
      rw[htk] at hy
      rcases List.mem_append.1 hy with h|h
      ·exact HA.out y h
      ·rw[List.mem_singleton.1 h];exact he
     clear hr hx HA htk;go_wp2
     go_roundg (len-(j+1))
     case rel=>go_light;exact⟨j+1,by omega,rfl,by go_num,HA2,rfl⟩
     case measure=>go_light;omega
    ·have hd3:((d.size:Int) != (k:Int))=true:=by simp;omega
     have hd4:¬(d.size:Int)=(k:Int):=by omega
     have hxf:x0=false:=by
      cases x0 with
      | false=>rfl
      | true=>exact absurd ((hx.1 rfl).2 d hdm) he
     subst hxf;clear hr hx HA htk;go_wp2
     go_ret
     first|exact⟨rfl,rfl⟩|exact⟨trivial,rfl⟩
   ·have hz:¬(j:Int)<(len:Int):=by omega
    have hxt:x0=true:=hx.2 ⟨by trivial,fun d hd=>HA.out d (by rw[Lr (by rw[hr.hl];omega)];exact hd)⟩
    subst hxt;clear hr hx HA;go_wp2
    go_ret
    exact⟨rfl,rfl⟩
 ·have hd:(((len:Int)) != ((m1-m0:Nat):Int))=true:=by simp;omega
  have hd2:¬((len:Int))=((m1-m0:Nat):Int):=by omega
  have hxf:x0=false:=by
   cases x0 with
   | false=>rfl
   | true=>exact absurd (hx.1 rfl).1 hl
  subst hxf;generalize m1-m0=m at *;clear hx
  go_enter func262,ntmps262
  go_wp2_with (go_at_call 245;first|((with_reducible refine HN.out.mono ?_);rintro e w1 ⟨rfl,rfl⟩)|((with_reducible refine HN1.out.mono ?_);rintro e w1 ⟨rfl,rfl⟩))
  go_ret
  exact⟨rfl,rfl⟩
def refE(S:SV)(item:List UInt8)(ds:LB):Int :=
 if S.lame then 191 else if 1048576<item.length then 100 else if 65536<=S.ends.length then 101 else if nxt S ds=false then 192 else 0
theorem QeK(w:World)(h:Sk w q p T D S)(s:BA)(hs:s.size<=9223372036854775807)(ao:OA)(b off len cap:Nat)(ds:LB)(hr:RdS w ao b off len ds)(hmx:len<=9223372036854775807)(r:Int)(hR:refE S s.data.toList ds=r) :
  Calls prog 166 #[Pq q,.string s,.slice ao len cap] w fun e w'=>e= .returned (.int .i64 r)∧w'=w:=by
 obtain⟨ea,ec,⟨c0,c1,c2,c3,c4⟩,_⟩:=h.cells;obtain⟨hk1,hk2,hf,_⟩:=h.small;unfold refE at hR;rw[Qe] at hR
 by_cases h1:S.lame=true
 ·rw[Lm h1] at hR;subst hR;rw[h1] at c4;clear h hr
  go_enter func166,ntmps166;go_wp2
  go_ret
  exact⟨rfl,rfl⟩
 ·rw[Ld h1] at hR;rw[Bool.eq_false_iff.2 h1] at c4
  by_cases h2:1048576<s.size
  ·rw[Lm h2] at hR;subst hR;have hd:(1048576:Int)<(s.size:Int):=by omega
   clear h hr
   go_enter func166,ntmps166;go_wp2
   go_ret
   exact⟨rfl,rfl⟩
  ·rw[Ld h2] at hR;have hd:¬(1048576:Int)<(s.size:Int):=by omega
   by_cases h3:65536<=S.ends.length
   ·rw[Lm h3] at hR;subst hR;have hd2:(65536:Int)<=(S.ends.length:Int):=by omega
    generalize S.ends.length=n at *;clear h hr
    go_enter func166,ntmps166;go_wp2
    go_ret
    exact⟨rfl,rfl⟩
   ·rw[Ld h3] at hR;have hd2:¬(65536:Int)<=(S.ends.length:Int):=by omega
    by_cases h4:nxt S ds=false
    ·rw[Lm h4] at hR;subst hR;have HN:=Qd (Qay w h (by omega) ao b off len cap ds hr hmx _ h4)
     generalize S.ends.length=n at *;clear h hr
     go_enter func166,ntmps166
     go_wp2_with (go_at_call 262;refine HN.out.mono ?_;rintro e w1 ⟨rfl,rfl⟩)
     go_ret
     exact⟨rfl,rfl⟩
    ·rw[Ld h4] at hR;subst hR;have HN:=Qd (Qay w h (by omega) ao b off len cap ds hr hmx true (by simpa using h4))
     generalize S.ends.length=n at *;clear h hr
     go_enter func166,ntmps166
     go_wp2_with (go_at_call 262;refine HN.out.mono ?_;rintro e w1 ⟨rfl,rfl⟩)
     go_ret
     exact⟨rfl,rfl⟩
end
theorem QfD(n:Nat)(hn:n<=8796093021952)(u:World):(Instr.makeSlice 22 (.int .i64 n) (.int .i64 n)).run prog u= .ok (.slice (Zp u.heap.size) n n) (u.alloc (.cells (Array.replicate n (Value.string ByteArray.empty)) 9)):=by
 have:=run_make_row' (P:=prog) 22 9 (.string ByteArray.empty) 16 underlying22 Tryz.infoS rfl .i64 .i64 n (by omega) (by omega) u
 rw[this,Rc.J1]
theorem Qh4(w:World)(n:Nat)(hn:n<=8796093021952):Qg (w.alloc (.cells (Array.replicate n (Value.string ByteArray.empty)) 9)) w.heap.size (.slice (Zp w.heap.size) n n) (List.replicate n ByteArray.empty):=by
 refine⟨by simp,.inr ⟨w.heap.size,n,Array.replicate n (Value.string ByteArray.empty),by simp,La _,Ja _ _,by simp,by unfold maxLen;omega,by simp,by simp⟩⟩
theorem OT(p:Nat)(ds:LB):(YH p ds).length=ds.length:=by simp[YH]
theorem Qie(p:Nat)(ds:LB)(d:BA):YH p (ds++[d])=YH p ds++[tx (nod (p+ds.length) d.data.toList)]:=by simp[YH]
theorem Qc3(w:World){q p:Nat}{T:Nat->Prop}{D:DV}{S:SV}(h:Sk w q p T D S)(ao:OA)(b off len cap:Nat)(ds:LB)(hr:RdS w ao b off len ds)(hmx:len<=1000)(h32:∀d∈ds,d.size<=32) :
  Calls prog 168 #[Pq q,.slice ao len cap] w fun e w'=> ∃v,e= .returned v∧Qg w' w.heap.size v (YH (nn S.ends.length) ds)∧Below w.heap.size w w':=by
 obtain⟨ea,ec,⟨c0,c1,c2,c3,c4⟩,_⟩:=h.cells;obtain⟨hk1,hk2,hf,_⟩:=h.small;have HN:=Qd (YX w S.ends.length (by omega))
 have hb:=Qcf S.ends.length;clear h;generalize nn S.ends.length=m at *;generalize S.ends.length=n at *;have HM:=QfD len (by omega) w
 have HO:=Qd (Qh4 w len (by omega))
 have u0:Below w.heap.size w (w.alloc (.cells (Array.replicate len (Value.string ByteArray.empty)) 9)):=bal (Lb _ _) _;have HU:=Qd u0;obtain⟨w1,hw1⟩:∃W,w.alloc (.cells (Array.replicate len (Value.string ByteArray.empty)) 9)=W:=⟨_,rfl⟩;rw[hw1] at HM HO HU;clear hw1 u0;obtain⟨g,hg⟩:∃g,w.heap.size=g:=⟨_,rfl⟩;have HG:=Qd hg;rw[hg] at HM HO;have HB:Hid (∀W,Below w.heap.size w W->RdS W ao b off len ds):=fun W hW=>hr.next hW (La _)
 have hl:=hr.hl;have hp:=hr.ptr;clear hg hr
 go_enter func168,ntmps168
 go_wp2_with (go_at_call 245;refine HN.out.mono ?_;rintro e w2 ⟨rfl,rfl⟩)
 go_loopg [20] len (fun g' x wr=> ∃j:Nat,j<=len∧g'=len-j∧x= .int .i64 j∧Hid (Qg wr g (.slice (Zp g) len len) (YH m (ds.take j)++List.replicate (len-j) ByteArray.empty))∧Hid (Below w2.heap.size w2 wr))
 case atStart=>go_light;exact⟨0,Ln _,rfl,rfl,HO,HU⟩
 case round=>
  obtain⟨j,hj,rfl,rfl,HA,HW⟩:=hrel
  by_cases hlt:j<len
  ·have hz:(j:Int)<(len:Int):=by omega
   obtain rfl:=hp (by omega)
   have ck:=(HB.out _ HW.out).at hlt;obtain⟨d,hd0⟩:∃d,ds.getD j ByteArray.empty=d:=⟨_,rfl⟩;have hds:j<ds.length:=by omega
   have hdm:d∈ds:=by rw[<-hd0,Lc,Ll hds];exact LZ _
   have htk:ds.take (j+1)=ds.take j++[d]:=by rw[<-hd0,L4 hds,Lc,Ll hds];rfl
   rw[hd0] at ck;have hw:IntKind.i64.wrap ((j:Int)+1)=(j:Int)+1:=by rw[Lz];omega
   have hw2:IntKind.u64.wrap (j:Int)=(j:Int):=Us _ (by omega) (by omega)
   have hw3:IntKind.u64.wrap ((m:Int)+(j:Int))=((m+j:Nat):Int):=by rw[Us _ (by omega) (by omega)];omega
   have hd32:=h32 d hdm;obtain⟨tn,htn⟩:∃t,tx (nod (m+j) d.data.toList)=t:=⟨_,rfl⟩;have HC:Hid (Calls prog 266 #[.int .u64 ((m+j:Nat):Int),.string d] wr fun e w'=>e= .returned (.string tn)∧Below wr.heap.size wr w'):=Rc.YW wr (m+j) (by omega) d (by omega) tn (by rw[nodS,Qe,Lm hd32];exact htn)
   have HA2:Hid (∀W,Below wr.heap.size wr W->(W.frozen? ⟨g,j,none⟩=false ∧ ∃x,W.cell? ⟨g,j,none⟩=some (.string x))∧Qg (W.setCell ⟨g,j,none⟩ (.string tn)) g (.slice (Zp g) len len) (YH m (ds.take (j+1))++List.replicate (len-(j+1)) ByteArray.empty)∧Below w2.heap.size w2 (W.setCell ⟨g,j,none⟩ (.string tn))):=fun W hW=>by
    have ho:=Qx HA.out hW (La _);have hjl:j<(YH m (ds.take j)++List.replicate (len-j) ByteArray.empty).length:=by simp[OT];omega
    have hoc:=UW ho hjl;refine⟨⟨hoc.2,_,hoc.1⟩,?_,(Qa HW.out hW).setCell (by rw[HG.out];exact La _) _⟩
    have:=QmY ho j tn;have hj2:(YH m (ds.take j)).length=j:=by rw[OT,LA];omega
    have hj3:(ds.take j).length=j:=by rw[LA];omega
    rw[htk,Qie,hj3,htn,show len-j=(len-(j+1))+1 by omega,I1] at *
    rw[Nf _ _ (by omega),hj2,NH,List.set_cons_zero] at this
    rw[LH];exact this
   clear HA HW htk HB hd0
   go_wp2_with (go_at_call 266;refine HC.out.mono ?_;rintro e w3 ⟨rfl,u3⟩;have ⟨⟨f1,x1,f2⟩,_⟩:=HA2.out _ u3)
   go_roundg (len-(j+1))
   case rel=>go_light;exact⟨j+1,by omega,rfl,by go_num,(HA2.out _ u3).2.1,(HA2.out _ u3).2.2⟩
   case measure=>go_light;omega
  ·have hz:¬(j:Int)<(len:Int):=by omega
   have HZ:Hid (Qg wr w2.heap.size (.slice (Zp g) len len) (YH m ds)∧Below w2.heap.size w2 wr):=by
    have:=HA.out;rw[Lr (by omega),show len-j=0 by omega,List.replicate_zero,Nd] at this
    exact⟨by rw[HG.out];exact this,HW.out⟩
   clear HA HW HB;go_wp2
   go_ret
   exact⟨_,rfl,HZ.out⟩
end St
namespace St
def tot:List (List UInt8×FV)->Nat
 | []=>0
 | (_,f)::r=>f.now.length+tot r
theorem Qkq{x:List UInt8×FV}{r:List (List UInt8×FV)}(h:Ord (x::r)):Ord r:=⟨(List.pairwise_cons.1 h.1).2,fun p hp=>h.2 p (Ng _ hp)⟩
theorem O5:∀ {L:List (List UInt8×FV)} (_:Ord L) (s:List UInt8) (f:FV),tot (Yn L s f)+(Qh L s).now.length=tot L+f.now.length
 | [],_,s,f=>by
  rw[Yn,Qh]
  split
  ·rename_i h;have:=Jv.1 h;simp only[tot,fz];simp;omega
  ·simp[tot,fz]
 | (t,g)::r,h,s,f=>by
  rw[Yn,Qh]
  by_cases e:t=s
  ·rw[Lm e,Lm e]
   split
   ·rename_i hg;have:=Jv.1 hg;simp only[tot];omega
   ·simp only[tot];omega
  ·rw[Ld e,Ld e]
   by_cases e2:s<t
   ·rw[Lm e2];have hn:Qh r s=fz:=by
     apply YF
     intro hm;obtain⟨p,hp,hps⟩:=List.mem_map.1 hm;have h3:=(List.pairwise_cons.1 h.1).1 p hp;have h4:t<s:=by rw[<-hps];exact h3
     exact Ij _ (Wm h4 e2)
    rw[hn]
    split
    ·rename_i hg;have:=Jv.1 hg;rw[this.1];rfl
    ·simp only[tot,fz];simp;omega
   ·rw[Ld e2];have:=O5 (Qkq h) s f;simp only[tot];omega
theorem Qe5{D:DV}(_:D.fk=0)(s:List UInt8)(f:FV):O8 D s f=(Ua { D with acts:=D.acts+1 } s f,0):=rfl
end St
namespace St
theorem Jf{α:Type}{P:List α->Prop}(h0:P [])(hs:∀l x,P l->P (l++[x]))(l:List α):P l:=by
 rw[<-List.reverse_reverse l]
 induction l.reverse with
 | nil=>exact h0
 | cons x r ih=>rw[IB];exact hs _ _ ih
end St
end Go.Proofs.YtoblgjledefdbaaGreatDoor
