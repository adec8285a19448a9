/- Own work. -/
import Derived.Test.YtoblgjledefdbaaGreatDoorQm06
import Derived.Test.YtoblgjledefdbaaGreatDoorQm29
set_option maxRecDepth 100000
set_option maxHeartbeats 1000000
namespace Go.Proofs.YtoblgjledefdbaaGreatDoor
open Go.RowKit
attribute [local go_sem ↓] Go.wp_at_zero Go.wp_at_succ
open Go.Proofs.Tryz
namespace Cv
open Pl
def J4(lo hi n:Nat):Nat:=if 2^40<n then 30 else if n<hi then 31 else if hi<lo then 41 else 0
def covR(lo hi n:Nat):List (Nat×Nat):=if J4 lo hi n=0 then cov lo hi else []
theorem Qj1(w:World):IA w.heap.size (fun _=>False) [] (w.alloc (.cells #[.slice none 0 0] 187)) :=
 ⟨⟨.slice none 0 0,OJ _ _,Nh _ _ _ _,fun _ _ h=>h⟩,fun h=>h⟩
theorem Qix(lo hi n e:Nat)(w:World)(he:J4 lo hi n=e)(h0:e≠0) :
  Calls prog 181 #[.int .u64 (lo:Int),.int .u64 (hi:Int),.int .u64 (n:Int)] w fun x w' => ∃v,x = .returned (.tuple #[v,.int .i64 (e:Int)])∧Uh w' w.heap.size v []∧Below w.heap.size w w':=by
 unfold J4 at he
 by_cases h1:2^40<n
 ·rw[Lk h1] at he;subst he;have ht:decide ((1099511627776:Int)<(n:Int))=true:=LA (by omega)
  clear h0 h1
  go_enter func181,ntmps181;go_wp2
  go_ret2
  exact⟨_,rfl,Nh _ _ _ _,Lb _ _⟩
 ·rw[Le h1] at he;have ht:decide ((1099511627776:Int)<(n:Int))=false:=Ls (by omega)
  by_cases h2:n<hi
  ·rw[Lk h2] at he;subst he;have xA:(n:Int)<(hi:Int):=by omega
   clear h0 h1
   go_enter func181,ntmps181;go_wp2
   go_ret2
   exact⟨_,rfl,Nh _ _ _ _,Lb _ _⟩
  ·rw[Le h2] at he;have xA : ¬(n:Int)<(hi:Int):=by omega
   by_cases h3:hi<lo
   ·rw[Lk h3] at he;subst he;have xB:(hi:Int)<(lo:Int):=by omega
    clear h0 h1
    go_enter func181,ntmps181;go_wp2
    go_ret2
    exact⟨_,rfl,Nh _ _ _ _,Lb _ _⟩
   ·rw[Le h3] at he;exact absurd he.symm h0
theorem QeV(lo hi n:Nat)(w:World)(hn:n<=2^40)(hh:hi<=n)(hl:lo<=hi) :
  Calls prog 181 #[.int .u64 (lo:Int),.int .u64 (hi:Int),.int .u64 (n:Int)] w fun x w' => ∃v,x = .returned (.tuple #[v,.int .i64 0])∧Uh w' w.heap.size v (zl (cov lo hi))∧Below w.heap.size w w':=by
 have ht:decide ((1099511627776:Int)<(n:Int))=false:=Ls (by omega)
 have xC : ¬(n:Int)<(hi:Int):=by omega
 have xD : ¬(hi:Int)<(lo:Int):=by omega
 have xA : ¬n<hi:=by omega
 have xB : ¬hi<lo:=by omega
 have HE:=Qbl (.inl rfl) (QfQ w.heap.size) (fun _=>False) [] lo hi (w.alloc (.cells #[.slice none 0 0] 187)) (Qj1 w) (fun _ h=>h.elim) (by decide) hl (by omega)
 clear hn hh hl
 go_enter func181,ntmps181
 go_upto_region 9 with ((go_at_call 276;with_reducible refine HE.mono ?_;rintro e w1 ⟨rfl,hI,hb,_⟩))
 obtain⟨⟨v,h1,h2,_⟩,_⟩:=hI;have c0:=cell_of_one h1;obtain⟨ao,m,c,rfl⟩:=Qx h2;have HF:Hid (Uh w1 w.heap.size (.slice ao m c) (zl (cov lo hi))∧Below w.heap.size w w1):=⟨by
  have:=h2.mono (base':=w.heap.size) (by omega)
  simpa using this,((Lb _ w).alloc (La _) _).trans hb⟩
 clear h1 h2 hb HE;go_wp2
 go_ret2
 exact⟨_,rfl,HF.out.1,HF.out.2⟩
theorem QcL(lo hi n:Nat)(w:World) :
  Calls prog 181 #[.int .u64 (lo:Int),.int .u64 (hi:Int),.int .u64 (n:Int)] w fun x w' => ∃v,x = .returned (.tuple #[v,.int .i64 (J4 lo hi n:Nat)])∧Uh w' w.heap.size v (zl (covR lo hi n))∧Below w.heap.size w w':=by
 by_cases h:J4 lo hi n=0
 ·have h':=h;unfold J4 at h'
  split at h'
  ·cases h'
  ·split at h'
   ·cases h'
   ·split at h'
    ·cases h'
    ·rw[h,covR,Lk h];exact QeV lo hi n w (by omega) (by omega) (by omega)
 ·rw[covR,Le h];exact Qix lo hi n _ w rfl h
theorem UD(n:Nat)(w:World) :
  Calls prog 105 #[.int .u64 (n:Int)] w fun x w' => ∃v,x = .returned (.tuple #[v,.int .i64 (J4 0 n n:Nat)])∧Uh w' w.heap.size v (zl (covR 0 n n))∧Below w.heap.size w w':=by
 have HR:Calls prog 181 #[.int .u64 0,.int .u64 (n:Int),.int .u64 (n:Int)] w fun x w' => ∃v,x = .returned (.tuple #[v,.int .i64 (J4 0 n n:Nat)])∧Uh w' w.heap.size v (zl (covR 0 n n))∧Below w.heap.size w w':=QcL 0 n n w
 generalize J4 0 n n=e at *;generalize covR 0 n n=L at *
 go_enter func105,ntmps105
 go_wp2_with (go_at_call 181;with_reducible refine HR.mono ?_;rintro x w1 ⟨v,rfl,h1,h2⟩)
 go_ret2
 exact⟨_,rfl,h1,h2⟩
end Cv
structure Frs(w:World)(m:Nat)(k:Int)(L:LB):Prop where
 blk:w.heap[m+1]? = some (.cells #[.int .i64 k,.int .u64 (L.length:Int),.map (some m)] 172 (0,0))
 mp:Mp w m (ff (clk k) L)
 k1:1<=k
 k2:k<=32
 hn:L.length<=65536
section
variable {w W:World} {m:Nat} {k:Int} {L:LB}
theorem Frs.lt(h:Frs w m k L):m+1<w.heap.size:=(Array.getElem?_eq_some_iff.1 h.blk).1
theorem Frs.c0(h:Frs w m k L):w.cell? ⟨m+1,0,none⟩=some (.int .i64 k):=by rw[cell_of_row w (m+1) 0 _ _ (0,0) h.blk];rfl
theorem Frs.c1(h:Frs w m k L):w.cell? ⟨m+1,1,none⟩=some (.int .u64 (L.length:Int)):=by rw[cell_of_row w (m+1) 1 _ _ (0,0) h.blk];rfl
theorem Frs.c2(h:Frs w m k L):w.cell? ⟨m+1,2,none⟩=some (.map (some m)):=by rw[cell_of_row w (m+1) 2 _ _ (0,0) h.blk];rfl
theorem Frs.fz(h:Frs w m k L)(j:Nat):w.frozen? ⟨m+1,j,none⟩=false:=frozen_of_row w (m+1) j _ _ h.blk
theorem Frs.same(h:Frs w m k L)(h0:W.heap[m]? = w.heap[m]?)(h1:W.heap[m+1]? = w.heap[m+1]?):Frs W m k L:=⟨h1.trans h.blk,h.mp.same h0,h.k1,h.k2,h.hn⟩
theorem Frs.next{B:Nat}(h:Frs w m k L)(hb:Below B w W)(hB:w.heap.size<=B):Frs W m k L :=
 h.same (hb.block m (by have:=h.lt;omega)) (hb.block (m+1) (by have:=h.lt;omega))
end
theorem Qn2(c:Nat):(fun _ _=>none)=ff c []:=by
 funext h k
 rw[ff,Le];rintro⟨_,e⟩;have:=LJ h.toNat;have:0<(k+1)*2^h.toNat:=Nat.mul_pos (by omega) this
 simp at e;omega
theorem Ql5(w:World)(k:Int)(h1:1<=k)(h2:k<=32) :
  Calls prog 43 #[.int .i64 k] w fun e w'=>e = .returned (.tuple #[.pointer (some ⟨w.heap.size+1,0,none⟩),.int .i64 0])∧Frs w' w.heap.size k []∧Below w.heap.size w w':=by
 have HC:Hid (∀W,Calls prog 91 #[.int .i64 k] W fun e w'=>e = .returned (.int .i64 0)∧W=w'):=fun W=>by
  have:=(Ym W k);rw[show chk k=0 by rw[chk,Le (by omega)]] at this
  exact this.mono fun _ _ h=>⟨h.1,h.2.symm⟩
 have xA := @run_makeMap prog;have HK:=Qd (L6 h1 h2);clear h1 h2
 go_enter func43,ntmps43
 go_wp2_with (go_at_call 91;with_reducible refine(HC.out _).mono ?_;rintro e w1 ⟨rfl,rfl⟩)
 go_ret2
 refine⟨rfl,⟨?_,?_,HK.out.1,HK.out.2,by simp⟩,bal (bal (Lb _ _) _) _⟩
 ·have:=LH (w.alloc (.map #[] 0)) (.cells #[.int .i64 k,.int .u64 0,.map (some w.heap.size)] 172)
  simpa using this
 ·rw[<-Qn2];refine(Qof w).same ?_
  exact(MapKept.heap_alloc (w.alloc (.map #[] 0)) _).2 w.heap.size (by simp)
theorem Yo(w:World)(m:Nat)(k:Int)(L:LB)(hF:Frs w m k L) :
  Calls prog 132 #[.pointer (some ⟨m+1,0,none⟩)] w fun e w'=>e = .returned (.int .u64 (L.length:Int))∧w'=w:=by
 have c1:=hF.c1;clear hF
 go_enter func132,ntmps132;go_wp2
 go_ret
 exact⟨rfl,rfl⟩
theorem Ob(w:World)(m:Nat)(k:Int)(L:LB)(hF:Frs w m k L) :
  Calls prog 134 #[.pointer (some ⟨m+1,0,none⟩)] w fun e w'=>e = .returned (.int .i64 k)∧w'=w:=by
 have c0:=hF.c0;clear hF
 go_enter func134,ntmps134;go_wp2
 go_ret
 exact⟨rfl,rfl⟩
theorem QaJ(w:World)(m:Nat)(k:Int)(L:LB)(hF:Frs w m k L)(h:Int)(b:Nat)(hf:Fitb h b)(s:BA)(ok:Bool)(hs:Hid ((ff (clk k) L h b).getD ByteArray.empty=s∧(ff (clk k) L h b).isSome=ok)) :
  Calls prog 182 #[.pointer (some ⟨m+1,0,none⟩),.agg #[.int .i64 h,.int .u64 (b:Int)]] w fun e w'=>e = .returned (.tuple #[.string s,.bool ok])∧Below w.heap.size w w':=by
 have HL : ∀W:World,W.heap[m]? = w.heap[m]? -> (Instr.lookup 170 (.map (some m)) (.agg #[.int .i64 h,.int .u64 (b:Int)]) true).run prog W = .ok (.tuple #[.agg #[.string s],.bool ok]) W:=fun W hW=>by
  have:=(hF.mp.same hW).look hf true;rw[hs.out.1,hs.out.2] at this;exact this
 have HF:Hid (∀W,Below w.heap.size w W->W.cell? ⟨m+1,2,none⟩=some (.map (some m))∧(Instr.lookup 170 (.map (some m)) (.agg #[.int .i64 h,.int .u64 (b:Int)]) true).run prog W = .ok (.tuple #[.agg #[.string s],.bool ok]) W):=fun W hb =>
  ⟨(hF.next hb (La _)).c2,HL W (hb.block m (by have:=hF.lt;omega))⟩
 clear hF hs hf HL
 go_enter func182,ntmps182
 go_upto_region 1 with (fail)
 obtain⟨w1,xA⟩:=Ze (w.alloc (.cells #[.int .i64 h,.int .u64 (b:Int)] 249));have k0:w1.cell? ⟨w.heap.size,0,none⟩=some (.int .i64 h):=by rw[<-xA];simp
 have k1:w1.cell? ⟨w.heap.size,1,none⟩=some (.int .u64 (b:Int)):=by rw[<-xA];simp
 have xB:Below w.heap.size w w1:=by rw[<-xA];exact bal (Lb _ _) _
 have hz:w.heap.size<w1.heap.size:=by rw[<-xA];simp
 obtain⟨a1,a2⟩:=HF.out w1.drew xB.drew;obtain⟨a3,a4⟩:=HF.out (w1.drew.alloc (.cells #[.string ⟨#[]⟩] 315)) (bal xB.drew _);obtain⟨a5,a6⟩:=HF.out (w1.alloc (.cells #[.string ⟨#[]⟩] 315)).drew (bal xB _).drew;rw[xA];clear xA
 go_region
 all_goals
  go_wp2
  go_ret2
  exact⟨rfl,(bal xB _).drew⟩
theorem YD(x:Int)(h0:0<=x)(h1:x<18446744073709551616):IntKind.u64.wrap x=x:=by
 simp[IntKind.wrap,IntKind.signed,IntKind.bits];omega
theorem RdS.take{w:World}{ao:OA}{b off len:Nat}{ss:LB}(h:RdS w ao b off len ss){n:Nat}(hn:n<=len):RdS w ao b off n (ss.take n):=by
 refine⟨by rw[Lz,h.hl];omega,fun h0=>h.ptr (by omega),fun j v hv => ?_,fun s hs=>h.sz s (Ny hs)⟩
 rw[NO,LQ] at hv
 split at hv
 ·exact h.rng j v hv
 ·cases hv
theorem small{c:Nat}(hc:c<=32){L:LB}{h:Nat} : ∀s∈pks c L h,s.size<=140737488351232:=fun s hs=>by rw[QbO hc L h s hs];omega
theorem Qjr{k:Int}(h1:1<=k)(h2:k<=32):chk k=0:=by rw[chk,Le (by omega)]
structure Rt(w:World)(g n:Nat)(d:BA):Prop where
 c0:w.cell? ⟨g,0,none⟩=some (.int .u64 (n:Int))
 c1:w.cell? ⟨g,1,none⟩=some (.string d)
 f0:w.frozen? ⟨g,0,none⟩=false
 f1:w.frozen? ⟨g,1,none⟩=false
theorem Rt.below{w w':World}{B g n:Nat}{d:BA}(t:Rt w g n d)(hb:Below B w w')(hg:g<B):Rt w' g n d :=
 ⟨(hb.cell (p:=⟨g,0,none⟩) hg).trans t.c0,(hb.cell (p:=⟨g,1,none⟩) hg).trans t.c1,(hb.frozen (p:=⟨g,0,none⟩) hg).trans t.f0,(hb.frozen (p:=⟨g,1,none⟩) hg).trans t.f1⟩
theorem QkW(w:World)(n:Nat)(d:BA)(t:Nat):Rt (w.alloc (.cells #[.int .u64 (n:Int),.string d] t)) w.heap.size n d:=by
 refine⟨?_,?_,?_,?_⟩ <;> simp
def rtD(c:Nat)(L:LB)(n:Nat):BA:=dg c (UU n (Q6 c (pks c (L.take n) 41)))
theorem Qod(w:World)(n:Nat)(hn:n<=8796093022208):(Instr.makeSlice 22 (.int .i64 0) (.int .i64 (n:Int))).run prog w = .ok (.slice (some ⟨w.heap.size,0,none⟩) 0 n) (w.alloc (.cells (madeCells #[.string ByteArray.empty] n) 9)):=by
 obtain⟨i0,hi,xA,xB,xC⟩:=info_parts Tryz.infoS;have hr:=run_make (P:=prog) w 22 9 i0 _ underlying22 hi xA .i64 .i64 0 n (by omega) (by omega) (by rw[xC];omega) (by omega)
 simp only[Int.toNat_natCast,xB,Nat.mul_one] at hr;exact hr
theorem Qkx(w:World)(n:Nat)(hn:n<=8796093022208):Qi (w.alloc (.cells (madeCells #[.string ByteArray.empty] n) 9)) w.heap.size (.slice (some ⟨w.heap.size,0,none⟩) 0 n) [] :=
 ⟨rfl,.inr ⟨w.heap.size,n,_,rfl,La _,LH w _,Ll _,by unfold maxLen;omega,by rw[size_madeCells,L8],rfl⟩⟩
structure RdB(w:World)(ao:OA)(g off n:Nat)(l:List (Int×Nat)):Prop where
 len:l.length=n
 addr:0<n->ao=some ⟨g,off,none⟩
 cell : ∀j,j<n->w.cell? ⟨g,off+j*2,none⟩=some (.int .i64 (l.getD j (0,0)).1)∧w.cell? ⟨g,off+j*2+1,none⟩=some (.int .u64 ((l.getD j (0,0)).2:Nat))
 fit : ∀b∈l,Fitb b.1 b.2
theorem RdB.below{w w':World}{ao:OA}{g off n:Nat}{l:List (Int×Nat)}(r:RdB w ao g off n l)(h:Below w.heap.size w w'):RdB w' ao g off n l :=
 ⟨r.len,r.addr,fun j hj=>⟨(h.cell (p:=⟨g,off+j*2,none⟩) (Ln w _ (r.cell j hj).1)).trans (r.cell j hj).1,(h.cell (p:=⟨g,off+j*2+1,none⟩) (Ln w _ (r.cell j hj).2)).trans (r.cell j hj).2⟩,r.fit⟩
theorem Qhd{w:World}{base:Nat}{v:Value}{l:List (Int×Nat)}(h:Cv.Uh w base v l)(hf : ∀b∈l,Fitb b.1 b.2) : ∃ao g n cap,v = .slice ao n cap∧RdB w ao g 0 n l∧n<=maxLen:=by
 have h0:=h;obtain⟨h1,h2⟩:=h
 rcases h2 with ⟨rfl,h2⟩|⟨g,cap,cur,rfl,hg,hh,hc1,hc2,hc3,hc4⟩
 ·exact⟨none,0,0,0,rfl,⟨h2,fun h=>absurd h (by omega),fun j hj=>absurd hj (by omega),hf⟩,Ll _⟩
 ·refine⟨some ⟨g,0,none⟩,g,l.length,cap,rfl,⟨rfl,fun _=>rfl,fun j hj => ?_,hf⟩,by omega⟩
  have xB:=h0.cells (g:=g) rfl;obtain⟨⟨a,b⟩,hq⟩ : ∃q,l[j]=q:=⟨_,rfl⟩;have xA:l[j]? = some (a,b):=by rw[Lh hj,hq]
  obtain⟨e1,e2⟩:=Cv.Qjj l j a b xA;have f1:=xB _ _ e1;have f2:=xB _ _ e2;rw[Addr.add_mid,Lm,LG] at f1 f2;rw[Ld,xA,Lm];exact⟨f1,f2⟩
def dgs(c:Nat)(L:LB):List (Int×Nat)->Option LB
 | []=>some []
 | b::r=>(ff c L b.1 b.2).bind fun x=>(dgs c L r).map fun A=>x::A
theorem QgP{c:Nat}{L:LB}{h:Int}{k:Nat}{x:BA}(hx:ff c L h k=some x) : ∀ {B:List (Int×Nat)} {A:LB},dgs c L B=some A->dgs c L (B++[(h,k)])=some (A++[x])
 | [],A,e=>by
  simp[dgs] at e;subst e;simp[dgs,hx]
 | b::r,A,e=>by
  rw[dgs] at e;obtain⟨y,hy,e⟩:=Option.bind_eq_some_iff.1 e;obtain⟨A',hA,rfl⟩:=Option.map_eq_some_iff.1 e;rw[Ih,dgs,hy,QgP hx hA]
  rfl
theorem Qel{c:Nat}{L:LB}{b:Int×Nat}(hb:ff c L b.1 b.2=none) : ∀ {B:List (Int×Nat)},b∈B->dgs c L B=none
 | [],h=>by cases h
 | d::r,h=>by
  rw[dgs]
  rcases List.mem_cons.1 h with rfl|h
  ·rw[hb];rfl
  ·rw[Qel hb h]
   cases ff c L d.1 d.2 <;> rfl
theorem Qda{c:Nat}{L:LB} : ∀ {B:List (Nat×Nat)},(∀b∈B,(b.2+1)*2^b.1<=L.length)->dgs c L (Cv.zl B)=some (B.map fun b=>nd c L b.1 b.2)
 | [],_=>rfl
 | b::r,h=>by
  show dgs c L (((b.1:Int),b.2)::Cv.zl r)=_
  rw[dgs,QfN c L b.1 b.2 (h b (by simp)),Qda (B:=r) (fun d hd=>h d (by simp[hd]))]
  rfl
theorem OF(w:World)(m:Nat)(k:Int)(L:LB)(hF:Frs w m k L)(ao:OA)(g off cap:Nat)(B:List (Int×Nat))(hr:RdB w ao g off B.length B)(hmx:B.length<=8796093021952) :
  Calls prog 106 #[.pointer (some ⟨m+1,0,none⟩),.slice ao B.length cap] w fun e w'=>Below w.heap.size w w'∧((dgs (clk k) L B=none∧e = .returned (.tuple #[.slice none 0 0,.bool false]))∨(∃D,dgs (clk k) L B=some D ∧ ∃v,e = .returned (.tuple #[v,.bool true])∧Qi w' w.heap.size v D)):=by
 have HM:=Qod w B.length (by omega)
 have HF:Hid (∀W,Below w.heap.size w W->Frs W m k L∧RdB W ao g off B.length B):=fun W hb=>⟨hF.next hb (La _),hr.below hb⟩
 have HX:=Qd hmx;have HO:Hid (Qi (w.alloc (.cells (madeCells #[.string ByteArray.empty] B.length) 9)) w.heap.size (.slice (some ⟨w.heap.size,0,none⟩) 0 B.length) []):=Qkx w _ (by omega)
 have xE:(B.length:Int)<=9223372036854775807:=by omega
 clear hF hr hmx
 go_enter func106,ntmps106;go_wp2
 go_loopg [6,16] B.length (fun g v i wr => ∃(j:Nat) (A:LB),j<=B.length∧g=B.length - j∧i = .int .i64 (j:Int)∧A.length=j∧Hid (dgs (clk k) L (B.take j)=some A)∧Qi wr w.heap.size v A∧Below w.heap.size w wr)
 case atStart=>go_light;exact⟨0,[],Ll _,rfl,rfl,rfl,rfl,HO.out,bal (Lb _ _) _⟩
 case round =>
  clear HM HO;obtain⟨j,A,hj,rfl,rfl,hA,HE,ho,hb⟩:=hrel
  by_cases hlt:j<B.length
  ·have hz:(j:Int)<(B.length:Int):=by omega
   have xF:(0:Int)<=(j:Int):=Lf _;obtain rfl:=(HF.out wr hb).2.addr (by omega)
   obtain⟨c0,c1⟩:=(HF.out wr hb).2.cell j hlt;obtain⟨⟨h,q⟩,hx⟩ : ∃x,B.getD j (0,0)=x:=⟨_,rfl⟩;rw[hx] at c0 c1;have xB:(h,q)∈B:=by rw[<-hx,Ld,Lh hlt];exact L3 _
   have xD:B.take (j+1)=B.take j++[(h,q)]:=by
    rw[NH,<-hx,Ld,Lh hlt];rfl
   have xA:=(HF.out wr hb).2.fit _ xB
   cases hv:ff (clk k) L h q with
   | none =>
    have HD:Hid (∀W,Below w.heap.size w W->Calls prog 182 #[.pointer (some ⟨m+1,0,none⟩),.agg #[.int .i64 h,.int .u64 (q:Int)]] W fun e w'=>e = .returned (.tuple #[.string ⟨#[]⟩,.bool false])∧Below W.heap.size W w'):=fun W hb =>
     QaJ W m k L (HF.out W hb).1 h q xA ⟨#[]⟩ false (by show _∧_;rw[hv];exact⟨rfl,rfl⟩)
    have HN:Hid (dgs (clk k) L B=none):=Qel (b:=(h,q)) hv xB;clear HE HF hx xB xD xA hv ho hlt hA
    go_wp2_with (go_at_call 182;with_reducible refine(HD.out _ (bal hb _)).mono ?_;rintro e w1 ⟨rfl,xC⟩)
    go_ret2
    exact⟨Qa (bal hb _) xC,.inl ⟨HN.out,rfl⟩⟩
   | some x =>
    have HD:Hid (∀W,Below w.heap.size w W->Calls prog 182 #[.pointer (some ⟨m+1,0,none⟩),.agg #[.int .i64 h,.int .u64 (q:Int)]] W fun e w'=>e = .returned (.tuple #[.string x,.bool true])∧Below W.heap.size W w'):=fun W hb =>
     QaJ W m k L (HF.out W hb).1 h q xA x true (by show _∧_;rw[hv];exact⟨rfl,rfl⟩)
    have HN:Hid (dgs (clk k) L (B.take (j+1))=some (A++[x])):=by rw[xD];exact QgP hv HE.out
    have HZ:Hid (x.size<=9223372036854775807):=by show x.size<=_;rw[Ql0 (QO k) hv];have:=QO k;omega
    have HO:=Qd ho;have HA:=Qd hA;clear HE HF hx xB xD xA hv ho hA
    go_wp2_with (first
     | (go_at_call 182;with_reducible refine(HD.out _ (bal hb _)).mono ?_;rintro e w1 ⟨rfl,xC⟩)
     | (at_builtin;refine QM _ rfl _ _ rfl w.heap.size _ A rfl (Yr (Qv (Yr HO.out _) xC (La _)) _) (some ⟨w1.heap.size,0,none⟩) w1.heap.size 0 1 [x] rfl (Uy w1 x HZ.out) (fun h=>by cases h) ?c1 ?c2 ?_))
    case c1=>have:=HX.out;have:=HA.out;simp;omega
    case c2=>have:=(Qa (bal hb _) xC).size;simp;omega
    intro v2 w3 h3 hb3;have HY:Hid (Qi w3 w.heap.size v2 (A++[x])∧Below w.heap.size w w3):=⟨h3,(bal (Qa (bal hb _) xC) _).trans hb3⟩;clear h3 hb3 xC hb;go_wp2
    go_roundg (B.length - (j+1))
    case rel=>go_light;exact⟨j+1,A++[x],by omega,rfl,by go_num,by have:=HA.out;simp;omega,HN,HY.out.1,HY.out.2⟩
    case measure=>go_light;omega
  ·obtain rfl:j=B.length:=by omega
   have hz : ¬((B.length:Int)<(B.length:Int)):=by omega
   have HN:Hid (dgs (clk k) L B=some A):=by have:=HE.out;rwa [L9] at this
   clear HE hlt HF;go_wp2
   go_ret2
   exact⟨hb,.inr ⟨A,HN.out,_,rfl,ho⟩⟩
theorem Qki(n:Nat)(hn:n<=65536):Cv.J4 0 n n=0∧Cv.covR 0 n n=Cv.cov 0 n:=by
 have h:Cv.J4 0 n n=0:=by rw[Cv.J4,Le (by omega),Le (by omega),Le (by omega)]
 exact⟨h,by rw[Cv.covR,Lk h]⟩
theorem QiO{b:Nat×Nat}{n:Nat}(h:(b.2+1)*2^b.1<=n)(hn:n<=65536):Fitb (b.1:Int) b.2:=by
 have hp:=LJ b.1;have h1:2^b.1<=(b.2+1)*2^b.1:=IG _ (by omega)
 have h2:b.2+1<=(b.2+1)*2^b.1:=NI _ hp;have h3:b.1<2^b.1:=Nat.lt_two_pow_self;exact⟨⟨by omega,by omega⟩,by omega⟩
theorem QjR(w:World)(m:Nat)(k:Int)(L:LB)(hF:Frs w m k L)(n:Nat)(hn:L.length<n) :
  Calls prog 57 #[.pointer (some ⟨m+1,0,none⟩),.int .u64 (n:Int)] w fun e w'=>e = .returned (.tuple #[.agg #[.int .u64 0,.string ⟨#[]⟩],.int .i64 30])∧Below w.heap.size w w':=by
 have hb:=bal (Lb w.heap.size w) (.cells #[.int .u64 0,.string ⟨#[]⟩] 50);have c1:=hF.c1;have xA:=hF.lt;have xB:(L.length:Int)<(n:Int):=by omega
 clear hF hn
 go_enter func57,ntmps57;go_wp2;refine Lv (v := .tuple #[.agg #[.int .u64 0,.string ⟨#[]⟩],.int .i64 30]) (by simp[results,results57,go_sem]) rfl ⟨rfl,?_⟩
 exact hb
theorem QjS(w:World)(ht:Tb w)(m:Nat)(k:Int)(L:LB)(hF:Frs w m k L)(n:Nat)(hn:n<=L.length)(r:BA)(hq:Hid (rtD (clk k) L n=r)) :
  Calls prog 57 #[.pointer (some ⟨m+1,0,none⟩),.int .u64 (n:Int)] w fun e w'=>e = .returned (.tuple #[.agg #[.int .u64 (n:Int),.string r],.int .i64 0])∧Below w.heap.size w w':=by
 have hL:=hF.hn;obtain⟨e1,e2⟩:=Qki n (by omega)
 obtain⟨p1,p2⟩:=QhY (clk k) L n hn (by omega)
 have xC:dgs (clk k) L (Cv.zl (Cv.cov 0 n))=some (pks (clk k) (L.take n) 41):=by rw[Qda (fun b hb=>Lu (p2 b hb) hn),p1]
 obtain⟨P,hP⟩:=Ze (pks (clk k) (L.take n) 41);rw[hP] at xC;have zP : ∀s∈P,s.size<=140737488351232:=by rw[<-hP];exact small (QO k)
 have lP:P.length<=41:=by rw[<-hP];exact QdA _ _ _
 have HQ:dg (clk k) (UU n (Q6 (clk k) P))=r:=by rw[<-hP];exact hq.out
 have HM:Hid (∀W,Calls prog 105 #[.int .u64 (n:Int)] W fun x w' => ∃ao g cap,x = .returned (.tuple #[.slice ao (Cv.zl (Cv.cov 0 n)).length cap,.int .i64 0])∧RdB w' ao g 0 (Cv.zl (Cv.cov 0 n)).length (Cv.zl (Cv.cov 0 n))∧Below W.heap.size W w'):=fun W=>by
  have:=Cv.UD n W;rw[e1,e2] at this;refine this.mono ?_
  rintro x w' ⟨v,rfl,ho,hb⟩;obtain⟨ao,g,n',cap,rfl,hr,_⟩:=Qhd ho (fun b hb=>by
   obtain⟨b0,xI,rfl⟩:=List.mem_map.1 hb;exact QiO (p2 b0 xI) (by omega))
  obtain rfl:=hr.len;exact⟨ao,g,cap,rfl,hr,hb⟩
 have lC:(Cv.zl (Cv.cov 0 n)).length<=80:=by rw[Cv.Je];exact Cv.JM 0 n (Ll _) (by omega)
 obtain⟨C,hC⟩:=Ze (Cv.zl (Cv.cov 0 n));rw[hC] at HM xC lC;have HD:Hid (∀W ao g cap,Below w.heap.size w W->RdB W ao g 0 C.length C->Calls prog 106 #[.pointer (some ⟨m+1,0,none⟩),.slice ao C.length cap] W fun e w'=>Below W.heap.size W w' ∧ ∃ao' b' cap',e = .returned (.tuple #[.slice ao' P.length cap',.bool true])∧RdS w' ao' b' 0 P.length P):=fun W ao g cap hb hr=>by
  refine(OF W m k L (hF.next hb (La _)) ao g 0 cap C hr (by omega)).mono ?_
  rintro e w' ⟨xH,⟨h1,_⟩|⟨D,h1,v,rfl,ho⟩⟩
  ·rw[xC] at h1;cases h1
  ·rw[xC] at h1;injection h1 with h1
   subst h1;obtain⟨ao',b',cap',rfl,xD,_⟩:=QR ho (fun s hs=>Lu (zP s hs) (by decide))
   exact⟨xH,ao',b',cap',rfl,xD⟩
 have xG:Hid (∀W,Below w.heap.size w W -> ∀ao' b' cap',RdS W ao' b' 0 P.length P->Calls prog 107 #[.int .i64 k,.int .u64 (n:Int),.slice ao' P.length cap'] W fun e w'=>e = .returned (.string r)∧Below W.heap.size W w'):=fun W hb ao' b' cap' xD=>QkR W (ht.next hb) k n ao' b' 0 P.length cap' P xD zP (by omega) r HQ
 have HF:Hid (∀W,Below w.heap.size w W->W.cell? ⟨m+1,0,none⟩=some (.int .i64 k)):=fun W hb=>(hF.next hb (La _)).c0
 have c1:(w.alloc (.cells #[.int .u64 0,.string ⟨#[]⟩] 50)).cell? ⟨m+1,1,none⟩=some (.int .u64 (L.length:Int)):=(hF.next (bal (Lb w.heap.size w) _) (La _)).c1;have xL : ¬(L.length:Int)<(n:Int):=by omega
 have hb:=bal (Lb w.heap.size w) (.cells #[.int .u64 0,.string ⟨#[]⟩] 50);have HN:=QkW w 0 ⟨#[]⟩ 50;rw[show((0:Nat):Int)=0 from rfl] at HN
 have xF:=Qd HN;have HZ:Hid (w.heap.size<(w.alloc (.cells #[.int .u64 0,.string ⟨#[]⟩] 50)).heap.size):=by show _<_;simp
 clear hq hP xC zP lP HQ hC lC e1 e2 p1 p2 hn hL ht hF HN
 go_enter func57,ntmps57
 go_wp2_with (first
  | (go_at_call 105;with_reducible refine(HM.out _).mono ?_;rintro e w1 ⟨ao,g,cap,rfl,xJ,xA⟩)
  | (go_at_call 106;with_reducible refine(HD.out _ _ _ _ (Qa hb xA) xJ).mono ?_;rintro e w2 ⟨xB,ao',b',cap',rfl,xK⟩;have y0:=HF.out _ (Qa (Qa hb xA) xB))
  | (go_at_call 107;with_reducible refine(xG.out _ (Qa (Qa hb xA) xB) _ _ _ xK).mono ?_;rintro e w3 ⟨rfl,xE⟩;have hR:=((xF.out.below xA HZ.out).below xB (Lx HZ.out xA.size)).below xE (Lx HZ.out (Lu xA.size xB.size));have k0:=hR.c0;have k1:=hR.c1;have f0:=hR.f0;have f1:=hR.f1))
 have s0:(w3.setCell ⟨w.heap.size,0,none⟩ (.int .u64 (n:Int))).cell? ⟨w.heap.size,0,none⟩=some (.int .u64 (n:Int)):=Na _ _ _ k0;have s1:((w3.setCell ⟨w.heap.size,0,none⟩ (.int .u64 (n:Int))).setCell ⟨w.heap.size,1,none⟩ (.string r)).cell? ⟨w.heap.size,1,none⟩=some (.string r) :=
  Na _ _ _ ((LO _ _ _ _ (by simp)).trans k1)
 refine Lv (v := .tuple #[.agg #[.int .u64 (n:Int),.string r],.int .i64 0]) (by simp[results,results57,go_sem,s0,s1]) rfl ⟨rfl,?_⟩
 exact((Qa (Qa (Qa hb xA) xB) xE).setCell (p:=⟨w.heap.size,0,none⟩) (La _) _).setCell (p:=⟨w.heap.size,1,none⟩) (La _) _
theorem Qd6(x:Int)(h0:0<=x)(h1:x<18446744073709551616):IntKind.u64.wrap x=x:=by
 simp[IntKind.wrap,IntKind.signed,IntKind.bits];omega
theorem J0(n:Nat)(w:World)(hn:n<2^64)(t:Nat)(ht:tr 64 n=t) :
  Calls prog 253 #[.int .u64 n] w fun e w'=>e = .returned (.int .i64 (t:Int))∧w'=w:=by
 subst ht
 go_enter func253,ntmps253;go_wp2
 go_loopg [4] 64 (fun g i wr => ∃k:Nat,k<=64∧g=64 - k∧i = .int .i64 k∧k+tr (64 - k) (n / 2^k)=tr 64 n∧w=wr)
 case atStart=>go_light;exact⟨0,Ll _,rfl,rfl,by simp,rfl⟩
 case round =>
  obtain⟨k,hk,rfl,rfl,hs,rfl⟩:=hrel;have xA:(0:Int)<=(k:Int):=Lf _
  by_cases hlt:k<64
  ·have xB:(k:Int)<64:=by omega
   have HC:=Pl.YR n k w hn hlt;have HS:=Qhy k n hlt
   by_cases hb:n / 2^k % 2=1
   ·rw[Lk hb] at HS;rw[LA hb] at HC
    go_wp2_with (go_at_call 224;refine HC.mono ?_;rintro e w' ⟨rfl,rfl⟩)
    go_ret
    refine⟨?_,rfl⟩
    rw[<-hs,HS]
    rfl
   ·rw[Le hb] at HS;rw[Ls hb] at HC
    go_wp2_with (go_at_call 224;refine HC.mono ?_;rintro e w' ⟨rfl,rfl⟩)
    go_roundg (64 - (k+1))
    case rel=>go_light;exact⟨k+1,by omega,rfl,by go_num,by omega,rfl⟩
    case measure=>go_light;omega
  ·obtain rfl:k=64:=by omega
   clear hk hlt;go_wp2
   go_ret
   refine⟨?_,rfl⟩
   rw[<-hs]
   rfl
theorem Qdz(w:World)(s:BA):Qi (w.alloc (.cells #[.string s] 9)) w.heap.size (.slice (some ⟨w.heap.size,0,none⟩) 1 1) [s] :=
 ⟨rfl,.inr ⟨w.heap.size,1,#[.string s],rfl,La _,LH w _,La _,by unfold maxLen;omega,rfl,rfl⟩⟩
theorem QN{w:World}{B B':Nat}{v:Value}{l:LB}(h:Qi w B v l)(hB:B'<=B):Qi w B' v l:=by
 obtain⟨h1,h2⟩:=h;refine⟨h1,?_⟩
 rcases h2 with h2|⟨g,cap,cur,hv,hg,h3⟩
 ·exact .inl h2
 ·exact .inr ⟨g,cap,cur,hv,by omega,h3⟩
structure Chf(m:Nat)(w w':World):Prop where
 below:Below m w w'
 block : ∀q,q<w.heap.size->q≠m->q≠m+1->w'.heap[q]? = w.heap[q]?
theorem Chf.refl(m:Nat)(w:World):Chf m w w:=⟨Lb _ _,fun _ _ _ _=>rfl⟩
theorem Chf.of{m:Nat}{w w':World}(h:Below w.heap.size w w')(hm:m<w.heap.size):Chf m w w':=⟨h.mono (Nat.le_of_lt hm),fun q hq _ _=>h.block q hq⟩
theorem Chf.trans{m:Nat}{w w1 w2:World}(h:Chf m w w1)(h2:Chf m w1 w2):Chf m w w2 :=
 ⟨h.below.trans h2.below,fun q hq x y=>(h2.block q (Lx hq h.below.size) x y).trans (h.block q hq x y)⟩
theorem Chf.size{m:Nat}{w w':World}(h:Chf m w w'):w.heap.size<=w'.heap.size:=h.below.size
theorem Chf.next{m:Nat}{w w1 w2:World}(h:Chf m w w1)(h2:Below w1.heap.size w1 w2)(hm:m<w.heap.size):Chf m w w2:=h.trans (Chf.of h2 (Lx hm h.size))
theorem Chf.set{m b:Nat}{w w':World}(h:Chf m w w')(i:Nat)(v:Value)(hb:b=m+1∨w.heap.size<=b)(hm:m<w.heap.size):Chf m w (w'.setCell ⟨b,i,none⟩ v):=by
 refine⟨h.below.setCell (p:=⟨b,i,none⟩) (by show m<=b;omega) v,fun q hq x y => ?_⟩
 rw[<-h.block q hq x y];exact Below.heap_setCell _ _ _ _ (by show q≠b;omega)
theorem Chf.put{m:Nat}{w w':World}(h:Chf m w w')(o:Obj):Chf m w (ChangeMaps.setBlock w' m o):=by
 refine⟨⟨h.below.os,h.below.tape,h.below.output,?_,fun q hq => ?_⟩,fun q hq x _ => ?_⟩
 ·simp[ChangeMaps.setBlock,h.below.size]
 ·rw[<-h.below.block q hq];simp[ChangeMaps.setBlock,show ¬m=q by omega]
 ·rw[<-h.block q hq x (by assumption)]
  simp[ChangeMaps.setBlock,show ¬m=q by omega]
theorem UV{m q:Nat}{w:World}(o:Obj)(h:q≠m):(ChangeMaps.setBlock w m o).heap[q]? = w.heap[q]? := by
 simp[ChangeMaps.setBlock,show ¬m=q by omega]
theorem Qpc{w:World}{m g:Nat}{k x:Int}{L:LB}(h0:w.cell? ⟨g,0,none⟩=some (.int .u32 x))(hF:Frs w m k L):g≠m∧g≠m+1:=by
 constructor
 ·rintro rfl;obtain⟨es,c,hm,_⟩:=hF.mp;simp[World.cell?,hm] at h0
 ·rintro rfl;rw[hF.c0] at h0
  cases h0
theorem Tb.chf{w w':World}{m:Nat}{k:Int}{L:LB}(ht:Tb w)(hF:Frs w m k L)(hc:Chf m w w'):Tb w':=by
 have xB:=QE ht.rs (Qef (by rw[Of];decide))
 obtain⟨x,h0⟩ : ∃x,w.cell? ⟨3,0,none⟩=some (.int .u32 x):=by
  have hx:0<RS.length:=by rw[Of];decide
  exact⟨RS[0],ht.rs 0 _ (by simp[cW,hx])⟩
 obtain⟨xC,xA⟩:=Qpc h0 hF;refine⟨fun j u hu => ?_⟩
 rw[<-ht.rs j u hu];have:=hc.block _ xB xC xA;simp only[World.cell?,this]
def sm(x:BA):BA:=dg 32 (Uf x)
def smL(L:LB):LB:=L.map sm
theorem Qhq(x:BA):(sm x).size=32:=U0 (La _) _
theorem QcX(w:World)(ht:Tb w)(x:BA)(hx:x.size<=1048576)(s:BA)(hs:sm x=s) :
  Calls prog 85 #[.string x] w fun e w'=>e = .returned (.string s)∧Below w.heap.size w w':=by
 have xA:Hid (Calls prog 145 #[.int .i64 32,.string x] w fun e w'=>e = .returned (.string s)∧Below w.heap.size w w'):=Qez w ht 32 x (by omega) s hs
 clear ht hx hs
 go_enter func85,ntmps85
 go_wp2_with (go_at_call 145;(with_reducible refine xA.out.mono ?_);rintro e w1 ⟨rfl,hb⟩)
 go_ret
 exact⟨rfl,hb⟩
end Go.Proofs.YtoblgjledefdbaaGreatDoor
