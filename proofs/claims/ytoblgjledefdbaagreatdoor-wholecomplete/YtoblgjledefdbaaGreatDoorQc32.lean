/- Own work. -/
import Derived.Deep.AppendLies
import Derived.Test.YtoblgjledefdbaaGreatDoorQc31
set_option maxRecDepth 100000
set_option maxHeartbeats 2000000
namespace Go.Proofs.YtoblgjledefdbaaGreatDoor
open Go.RowKit
attribute [local go_sem ↓] Go.wp_at_zero Go.wp_at_succ
open Go.Proofs.Tryz
theorem Qpy{k c:Nat} : ∀(L:LB),(∀s∈L,s.size<=c)->(St.bA k (itL k L)).a.length<=(c+8)*L.length:=by
 intro L;refine St.Jf (P:=fun L=>(∀s∈L,s.size<=c)->(St.bA k (itL k L)).a.length<=(c+8)*L.length) (fun _=>by simp[itL,St.bA,St.BV.z]) (fun L x ih h=> ?_) L
 have h1:=ih fun y hy=>h y (IG _ hy)
 have h2:=h x (by simp)
 rw[Qed,St.Y8]
 show((St.bA k (itL k L)).a++St.Rc.pay x.data.toList).length<=_
 rw[Le,St.Rc.pay_len,Le,LR,N6,Nj];have:x.data.toList.length=x.size:=by simp
 omega
theorem QjQ{k c:Nat}(h1:1<=k)(h2:k<=32)(hc:c<=1048576){L:LB}(hf:L.length<=65536)(hs:∀s∈L,s.size<=c):(St.bA k (itL k L)).a.length+(St.bA k (itL k L)).b.length+(St.bA k (itL k L)).m.length<=(c+152)*L.length:=by
 have l:=(Qbn h1 h2 hf (fun s h=>Lu (hs s h) hc)).lens
 have a:=Qpy (k:=k) L hs;have n:=St.Qcf L.length;have b:=l.b;have m:=l.m;rw[OD] at b m;rw[LT] at a ⊢;omega
theorem a_qt{k R:Nat}{L:LB}{x:BA}{D:St.DV}(h1:1<=k)(h2:k<=32)(hf:L.length<65536)(hs:∀s∈L++[x],s.size<=1048576)(hq:St.Qt R D)(he:St.Ext k (itL k L) D.L)(hR:(St.bA k (itL k (L++[x]))).a.length+(St.bA k (itL k (L++[x]))).b.length+(St.bA k (itL k (L++[x]))).m.length<=R)(hz:R<=268435456) :
  ∃D',aD D (St.sA k (itL k L)) L x=(D',St.sA k (itL k (L++[x])),L++[x],0)∧St.Qt R D'∧St.Ext k (itL k (L++[x])) D'.L∧D'.acts=D.acts+6:=by
 have hok:=Qbn h1 h2 (L:=L++[x]) (by rw[Le,LR];omega) hs
 have hok0:=Qbn h1 h2 (L:=L) (by omega) (fun s h=>hs s (IG _ h))
 rw[Qed] at hok hR ⊢;obtain⟨D',y1,y2,y3,y4⟩:=St.Qn7 hok hq he hR hz;refine⟨D',?_,y2,y3,y4⟩
 have he:(St.sA k (itL k L)).ends.length=L.length:=by
  show(St.bA k (itL k L)).ends.length=_
  rw[hok0.lens.ends,OD]
 rw[a_of (hs x (by simp)) (by omega) rfl y1,Lm rfl]
def Dw(w W:World)(p:Nat)(D:St.DV):Prop := ∃Sd,St.Dsk W p Sd D∧(∀b,Sd b->w.heap.size<=b)∧Below w.heap.size w W
def Nl(w W:World)(a p:Nat)(D:St.DV)(S:St.SV)(L:LB):Prop := ∃U,Lg W 0 a p U D S L∧(∀b,U b->w.heap.size<=b)∧Below w.heap.size w W
section
variable {w W W1:World} {a p:Nat} {D D':St.DV} {S S':St.SV} {L L':LB}
theorem Nl.below(h:Nl w W a p D S L):Below w.heap.size w W:=by obtain⟨_,_,_,hb⟩:=h;exact hb
theorem QoR(w:World)(n:Nat)(hn:n<=268435456):Calls prog 10 #[.int .i64 n] w fun e w'=> ∃p,e= .returned (Pq p)∧Dw w w' p (St.Jb n) :=
 (St.QcZ w n n (by omega) (by omega)).mono fun e w' z=>by
  obtain⟨p,Sd,z1,z2,z3,z4⟩:=z;exact⟨p,z1,Sd,z2,z3,z4⟩
theorem Dw.open(ht:Tb w){R:Nat}(hR:R<=268435456)(h:Dw w W p (St.Jb R))(k:Nat)(k1:1<=k)(k2:k<=32) :
  Calls prog 11 #[Pq p,.int .i64 k] W fun e w'=> ∃a,e= .returned (.tuple #[Pq a,.int .i64 0])∧Nl w w' a p (St.nD R 3) (St.sA k (itL k [])) []:=by
 obtain⟨Sd,h1,h2,h3⟩:=h;refine(QhR W (ht.next h3) R hR h1 (fun e=>by have:=ht.lt;have:=h2 _ e;omega) k k1 k2).mono fun e w' z=> ?_
 obtain⟨a,U,z1,z2,z3,z5⟩:=z;exact⟨a,z1,U,z2,fun b hb=>(z3 b hb).elim (h2 b) (fun e=>Lu h3.size e),h3.trans (z5.below h3.size h2)⟩
theorem Nl.tb(h:Nl w W a p D S L)(ht:Tb w):Tb W:=ht.next h.below
theorem Nl.root(h:Nl w W a p D S L)(ht:Tb w)(n:Nat)(hn:n<=L.length)(r:BA)(hq:rtD S.k L n=r):Calls prog 20 #[Pq a,.int .u64 n] W fun e w'=>e= .returned (.tuple #[.agg #[.int .u64 n,.string r],.int .i64 0])∧Below W.heap.size W w':=by
 have ht1:=h.tb ht;obtain⟨U,y1,y2,y3⟩:=h;exact Qek W ht1 y1 n hn r hq
end
namespace St
theorem QoM(k R j:Nat):Ext k [] (nD R j).L∧Qt R (nD R j):=⟨⟨rfl,rfl,rfl,fun _ _ _ _=>rfl⟩,rfl,rfl,Uy,rfl⟩
theorem QpH{R:Nat}{D:DV}(h:Qt R D)(he:Oth D.L)(hR:R<=268435456)(ha:D.acts<=1000000):Rm 7 D:=⟨by omega,by have:=(JV h.ord he).2;omega,by have:=h.tot;omega⟩
end St
structure Fit(k R c:Nat)(L:LB):Prop where
 k1:1<=k
 k2:k<=32
 c1:c<=1048576
 few:L.length<=65536
 sz:∀s∈L,s.size<=c
 room:(c+152)*L.length<=R
 top:R<=268435456
theorem Fit.init{k R c:Nat}{L:LB}{x:BA}(h:Fit k R c (L++[x])):Fit k R c L :=
 ⟨h.k1,h.k2,h.c1,by have:=h.few;simp at this;omega,fun s hs=>h.sz s (IG _ hs),by have:=h.room;rw[Le,N6] at this;omega,h.top⟩
theorem Fit.szs{k R c:Nat}{L:LB}(h:Fit k R c L):∀s∈L,s.size<=1048576:=fun s hs=>Lu (h.sz s hs) h.c1
theorem Fit.has{k R c:Nat}{L:LB}{D:St.DV}(h:Fit k R c L)(hd:D.down=false)(he:St.Ext k (itL k L) D.L):Has k L D:=Qml h.k1 h.k2 h.few h.szs hd he
theorem Qk6{k R c:Nat}{L:LB}(h:Fit k R c L):(St.sA k (itL k L)).ends.length=L.length:=by
 show(St.bA k (itL k L)).ends.length=_
 rw[(Qbn h.k1 h.k2 h.few h.szs).lens.ends,OD]
theorem Fit.one{k R c:Nat}{L:LB}{x:BA}{D:St.DV}(h:Fit k R c (L++[x]))(hq:St.Qt R D)(he:St.Ext k (itL k L) D.L) :
  ∃D',aD D (St.sA k (itL k L)) L x=(D',St.sA k (itL k (L++[x])),L++[x],0)∧St.Qt R D'∧St.Ext k (itL k (L++[x])) D'.L∧D'.acts=D.acts+6 :=
 a_qt h.k1 h.k2 (by have:=h.few;simp at this;omega) h.szs hq he (Lu (QjQ h.k1 h.k2 h.c1 h.few h.sz) h.room) h.top
theorem QnP{k R c:Nat} : ∀(xs L:LB) (D:St.DV),Fit k R c (L++xs)->St.Qt R D->St.Ext k (itL k L) D.L->D.acts+6*xs.length<=1000000 ->
  ∃D',apD D (St.sA k (itL k L)) L xs=(D',St.sA k (itL k (L++xs)),L++xs,xs.length,0)∧St.Qt R D'∧St.Ext k (itL k (L++xs)) D'.L∧D'.acts=D.acts+6*xs.length∧RmA D (St.sA k (itL k L)) L xs
 | [],L,D,_,hq,he,_=>⟨D,by rw[Nd];rfl,hq,by rw[Nd];exact he,rfl,trivial⟩
 | x::xs,L,D,hf,hq,he,ha=>by
  rw[show L++x::xs=L++[x]++xs by simp] at hf ⊢
  have hf1:Fit k R c (L++[x]):=⟨hf.k1,hf.k2,hf.c1,by have:=hf.few;rw[Le] at this;omega,fun s hs=>hf.sz s (IG _ hs),Lu (Nat.mul_le_mul_left _ (by simp)) hf.room,hf.top⟩
  simp only[List.length_cons] at ha;obtain⟨D1,y1,y2,y3,y4⟩:=hf1.one hq he;obtain⟨D2,z1,z2,z3,z4,z5⟩:=QnP xs (L++[x]) D1 hf y2 y3 (by omega)
  refine⟨D2,?_,z2,z3,by rw[z4,y4,LD];omega,?_⟩
  ·rw[apD,y1];simp only[if_true];rw[z1];rfl
  ·rw[RmA,y1];exact⟨St.QpH hq he.oth (hf.top) (by omega),fun _=>z5⟩
section
variable {w W W1:World} {a p:Nat} {D D':St.DV} {S S':St.SV} {L L' K:LB} {v:Value}
def Jl(w W:World)(a p:Nat)(D:St.DV)(S:St.SV)(L:LB)(v:Value)(K:LB):Prop :=
 ∃U,Lg W 0 a p U D S L∧(∀b,U b->w.heap.size<=b)∧Below w.heap.size w W∧Qg W w.heap.size v K ∧ ∀g,v.ownBlock=some g -> ¬U g
theorem Jl.nl(h:Jl w W a p D S L v K):Nl w W a p D S L:=by obtain⟨U,h1,h2,h3,_⟩:=h;exact⟨U,h1,h2,h3⟩
theorem Nl.jn(h:Nl w W a p D S L):Jl w W a p D S L (.slice none 0 0) []:=by obtain⟨U,h1,h2,h3⟩:=h;exact⟨U,h1,h2,h3,Um _ _,fun g hg=>by cases hg⟩
theorem Jl.own(h:Jl w W a p D S L v K):Qg W w.heap.size v K:=by obtain⟨U,_,_,_,h4,_⟩:=h;exact h4
theorem Jl.next(h:Jl w W a p D S L v K)(hb:Below W.heap.size W W1):Jl w W1 a p D S L v K:=by
 obtain⟨U,h1,h2,h3,h4,h5⟩:=h;exact⟨U,h1.next hb,h2,Qa h3 hb,Qx h4 hb (La _),h5⟩
theorem Jl.append(h:Jl w W a p D S L v K)(ht:Tb w)(he:S.ends.length=L.length)(hb:Below W.heap.size W W1)(ao:OA)(b len cap:Nat)(xs:LB)(hr:RdS W1 ao b 0 len xs)(hlen:len<=1000000)(n3:0<len->b<w.heap.size∨W.heap.size<=b)(hR:RmA D S L xs)(n:Nat)(e0:Int)(hA:apD D S L xs=(D',S',L',n,e0)) :
  Calls prog 14 #[Pq a,.slice ao len cap] W1 fun e w'=>e= .returned (.tuple #[.int .i64 n,.int .i64 e0])∧Jl w w' a p D' S' L' v K:=by
 obtain⟨U,y1,y2,y3,y4,y5⟩:=h;have hb3:=Qa y3 hb;refine(Qeg W1 (ht.next hb3) (y1.next hb) he ao b len cap xs hr (by omega) (fun h0 hu=> ?_) hR n e0 hA).mono fun e w' z=>⟨z.1,?_⟩
 ·have:=y1.lt hu;have:=y2 b hu
  rcases n3 h0 with e|e <;> omega
 ·obtain⟨U',z1,z2,z3⟩:=z.2;have y6:=Qx y4 hb (La _);refine⟨U',z1,fun c hc=>(z2 c hc).elim (y2 c) (fun e=>Lu hb3.size e),hb3.trans (z3.below hb3.size y2),St.QK y6 fun g hg=>z3.block g (Ob y6 hg) (y5 g hg),fun g hg hu=> ?_⟩
  rcases z2 g hu with e|e
  ·exact y5 g hg e
  ·have:=Ob y6 hg;omega
theorem Jl.app(h:Jl w W a p D S L v K)(hb:Below W.heap.size W W1)(ty:Nat)(ad:Addr)(mc:Nat)(x:BA)(hr:∀j u,[Value.string x][j]? = some u->W1.cell? (ad.add j)=some u)(hlen:K.length+1<=1048576) :
  ∃v' w',(Builtin.append_ #[22,22] ty #[v,.slice (some ad) 1 mc]).run prog W1= .ok v' w'∧Jl w w' a p D S L v' (K++[x]):=by
 obtain⟨U,y1,y2,y3,y4,y5⟩:=h.next hb;obtain⟨v',w5,hap,o5,g5⟩:=Qcl W1 ty w.heap.size v K y4 ad mc x hr hlen y3.size;refine⟨v',w5,hap,?_⟩
 have t5:St.Upo (fun b=>v.ownBlock=some b) W1 w5:=by
  rcases g5 with ⟨g,n,c,e1,e2,g3⟩|⟨g3,_⟩
  ·rw[e1];exact St.Upo.grown g3 (fun b hb=>by cases hb;rfl)
  ·exact St.Upo.grown g3 (fun b hb=>by cases hb)
 have hv5:∀b,v'.ownBlock=some b->v.ownBlock=some b∨W1.heap.size<=b:=fun b hb=>by
  rcases g5 with ⟨g',n,c,e1,e2,g3⟩|⟨_,g3⟩
  ·rw[e1];rw[e2] at hb;exact .inl hb
  ·exact .inr (g3 b hb)
 refine⟨U,y1.same fun x hx=>t5.block x (y1.lt hx) fun e=>y5 x e hx,y2,y3.trans (t5.below y3.size fun b hb=>(LY y4 b hb).1),o5,fun g hg hu=> ?_⟩
 rcases hv5 g hg with e|e
 ·exact y5 g e hu
 ·have:=y1.lt hu;omega
end
theorem Qij(w:World)(ht:Tr w)(k:Int)(ao:OA)(b off cap H n:Nat)(hH:H<=40)(hn:2^H=n)(L:LB)(hr:RdS w ao b off n L)(hsz:∀s∈L,s.size<=140737488351232)(r:BA)(hq:Hid (nd (clk k) L H 0=r)) :
  Calls prog 112 #[.int .i64 k,.slice ao n cap] w fun e w'=>e= .returned (.string r)∧Below w.heap.size w w':=by
 have hn0:0<n:=by rw[<-hn];exact LP H
 have hmx:n<=1099511627776:=by rw[<-hn];exact Nc (n:=2) (by decide) hH
 obtain rfl:=hr.ptr hn0;have HT:Hid (Tr w∧RdS w (some ⟨b,off,none⟩) b off n L∧(∀s∈L,s.size<=140737488351232)):=⟨ht,hr,hsz⟩;have hmx':(n:Int)<=1099511627776:=by omega
 have hb:=Lb w.heap.size w;have HN:Hid (2^H=n∧n<=1099511627776):=⟨hn,hmx⟩;have hc:=Qs k;have HC:Hid (clk k<=32):=hc;clear ht hr hsz hn hH hmx hc
 go_enter func112,ntmps112;go_wp2
 go_loopg [5,6] n (fun gg v i0 wr=> ∃i:Nat,i<=n∧gg=n-i∧i0= .int .i64 i∧Qg wr w.heap.size v (Y4 (clk k) L 0 i)∧Below w.heap.size w wr)
 case atStart=>go_light;exact⟨0,Ln _,rfl,rfl,Um _ _,hb⟩
 case round=>
  clear hb;obtain⟨i,hi,rfl,rfl,ho,hb⟩:=hrel;have hi0:(0:Int)<=(i:Int):=Lh _
  by_cases hlt:i<n
  ·have hlt':(i:Int)<(n:Int):=by omega
   obtain⟨t1,t2,t3⟩:=HT.out;obtain⟨s,hs⟩:∃s,L.getD i ByteArray.empty=s:=⟨_,rfl⟩;have ci:=(t2.next hb (La _)).at hlt;rw[hs] at ci;obtain⟨x,hx⟩:∃x,nd (clk k) L 0 i=x:=⟨_,rfl⟩;have HLf:=QeH wr (t1.next hb) k s (by rw[<-hs];have:=t3 _ (Q1 (ss:=L) (k:=i) (by rw[t2.hl];exact hlt));omega) x (by rw[<-hx,nd,hs])
   have HX:Hid (Qg wr w.heap.size u5 (Y4 (clk k) L 0 i)∧Below w.heap.size w wr∧i+1<=n∧x.size<=9223372036854775807∧Y4 (clk k) L 0 i++[x]=Y4 (clk k) L 0 (i+1)):=⟨ho,hb,hlt,by rw[<-hx,Ye HC.out];have:=HC.out;omega,by rw[<-hx];exact Qck _ _ _ _⟩
   clear ho hb hi hlt hs hx t1 t2 t3
   go_wp2_with (first
    | (go_at_call 189;with_reducible refine HLf.mono ?_;rintro e w2 ⟨rfl,hb2⟩)
    | (at_builtin;refine QY _ rfl _ _ rfl w.heap.size _ (Y4 (clk k) L 0 i) rfl (Yf (Qx HX.out.1 hb2 (La _)) _) (Zp w2.heap.size) w2.heap.size 0 1 [x] rfl (Uf w2 x HX.out.2.2.2.1) (fun h=>by cases h) ?c1 ?c2 ?_))
   case c1=>have h1:=HX.out.2.2.1;have h2:=HN.out.2;rw[YB];simp;omega
   case c2=>have:=(Qa HX.out.2.1 hb2).size;simp;omega
   intro v2 w3 h3 hb3;have HY:Hid (Qg w3 w.heap.size v2 (Y4 (clk k) L 0 (i+1))∧Below w.heap.size w w3):=⟨by rw[<-HX.out.2.2.2.2];exact h3,(bal (Qa HX.out.2.1 hb2) _).trans hb3⟩
   clear h3 hb3 hb2;go_wp2
   go_roundg (n-(i+1))
   case rel=>go_light;exact⟨i+1,HX.out.2.2.1,rfl,by go_num,HY.out.1,HY.out.2⟩
   case measure=>go_light;have:=HX.out.2.2.1;omega
  ·obtain rfl:i=n:=by omega
   have hlt':¬((i:Int)<(i:Int)):=by omega
   have HX:Hid (Qg wr w.heap.size u5 (Y4 (clk k) L 0 i)∧Below w.heap.size w wr):=⟨ho,hb⟩;clear ho hb hi hlt;go_wp2
   go_loopg [5] H (fun gg v wx=> ∃(j N:Nat),j<=H∧gg=H-j∧Hid (2^(H-j)=N∧N<=1099511627776)∧Qg wx w.heap.size v (Y4 (clk k) L j N)∧Below w.heap.size w wx)
   case atStart=>go_light;exact⟨0,i,Ln _,rfl,HN.out,HX.out.1,HX.out.2⟩
   case round=>
    clear HX;obtain⟨j,N,hj,rfl,HJ,ho,hb⟩:=hrel;have hNN:=HJ.out;have hN0:0<N:=by rw[<-hNN.1];exact LP _
    obtain⟨g,cp,rfl,hg,hcp,hcm⟩:=Qev ho (by rw[YB];exact hN0)
    rw[YB] at hcp ⊢
    by_cases hjl:j<H
    ·obtain⟨M,hM⟩:∃M,2^(H-(j+1))=M:=⟨_,rfl⟩;have hNM:N=2*M:=by rw[<-hNN.1,<-hM,show H-j=H-(j+1)+1 by omega,LJ];omega
     have hM0:0<M:=by rw[<-hM];exact LP _
     have h1N:(1:Int)<(N:Int):=by omega
     have hN':(N:Int)<=1099511627776:=by omega
     have HX:Hid (Qg wr w.heap.size (.slice (Zp g) (Y4 (clk k) L j N).length cp) (Y4 (clk k) L j N)∧Below w.heap.size w wr∧N=2*M∧2^(H-(j+1))=M∧j+1<=H∧N<=1099511627776):=⟨ho,hb,hNM,hM,hjl,hNN.2⟩;clear ho hb hNN hN0 hg hcp hcm hNM hM hM0 hjl hj HJ;obtain⟨W0,hW0⟩:∃W0,W0=wr:=⟨wr,rfl⟩;subst hW0;go_wp2
     go_loopg [7,8] M (fun gg v i0 wx=> ∃m:Nat,m<=M∧gg=M-m∧i0= .int .i64 (2*(m:Int))∧Qg wx W0.heap.size v (Y4 (clk k) L (j+1) m)∧Below W0.heap.size W0 wx)
     case atStart=>go_light;exact⟨0,Ln _,rfl,rfl,Um _ _,Lb _ _⟩
     case round=>
      obtain⟨m,hm,rfl,rfl,ho,hb⟩:=hrel;have hm0:(0:Int)<=(m:Int):=Lh _;obtain⟨y1,y2,y3,y4,y5,y6⟩:=HX.out
      by_cases hlt:m<M
      ·have hlt':2*(m:Int)+1<(N:Int):=by omega
       have hlt2:2*(m:Int)<(N:Int):=by omega
       obtain⟨a,ha⟩:∃a,2*m=a:=⟨_,rfl⟩;have ea:2*(m:Int)=(a:Int):=by omega
       have k1:=(UW (Qx y1 hb (La _)) (j:=a) (by rw[YB];omega)).1
       have k2:=(UW (Qx y1 hb (La _)) (j:=a+1) (by rw[YB];omega)).1
       rw[Qdn _ _ _ _ (by omega)] at k1 k2
       obtain⟨x,hx⟩:∃x,nd (clk k) L j a=x:=⟨_,rfl⟩;obtain⟨y,hy⟩:∃y,nd (clk k) L j (a+1)=y:=⟨_,rfl⟩;obtain⟨z,hz⟩:∃z,nd (clk k) L (j+1) m=z:=⟨_,rfl⟩;rw[hx] at k1;rw[hy] at k2;have zx:x.size=clk k:=by rw[<-hx];exact Ye HC.out _ _ _
       have zy:y.size=clk k:=by rw[<-hy];exact Ye HC.out _ _ _
       have hcc:=HC.out;have HNd:Hid (∀W,Below wr.heap.size wr W->Calls prog 190 #[.int .i64 k,.string x,.string y] W fun e w'=>e= .returned (.string z)∧Below W.heap.size W w'):=fun W h=>QeI W (HT.out.1.next (Qa (Qa y2 hb) h)) k x y (by omega) (by omega) z (by rw[<-hz,nd,ha,hx,hy])
       have HK:Hid (∀W,Below wr.heap.size wr W->W.cell? ⟨g,a,none⟩=some (.string x)∧W.cell? ⟨g,a+1,none⟩=some (.string y)):=fun W h=>by
        have l1:=Lf wr _ k1;exact⟨(h.cell (p:=⟨g,a,none⟩) l1).trans k1,(h.cell (p:=⟨g,a+1,none⟩) l1).trans k2⟩
       have HK0:Hid (∀W,Below W0.heap.size W0 W->W.cell? ⟨g,a,none⟩=some (.string x)∧W.cell? ⟨g,a+1,none⟩=some (.string y)):=fun W h=>by
        have r1:=(UW (Qx y1 h (La _)) (j:=a) (by rw[YB];omega)).1
        have r2:=(UW (Qx y1 h (La _)) (j:=a+1) (by rw[YB];omega)).1
        rw[Qdn _ _ _ _ (by omega)] at r1 r2
        rw[hx] at r1;rw[hy] at r2;exact⟨r1,r2⟩
       have HY:Hid (Qg wr W0.heap.size u7 (Y4 (clk k) L (j+1) m)∧Below W0.heap.size W0 wr∧Y4 (clk k) L (j+1) m++[z]=Y4 (clk k) L (j+1) (m+1)∧z.size<=9223372036854775807∧m+1<=M∧N=2*M∧N<=1099511627776):=⟨ho,hb,by rw[<-hz];exact Qck _ _ _ _,by rw[<-hz,Ye HC.out];omega,hlt,y3,y6⟩
       have e1:IntKind.i64.wrap ((a:Int)+1)=(a:Int)+1:=by rw[Lz];omega
       have h0a:(0:Int)<=(a:Int):=by omega
       have h0b:(0:Int)<=(a:Int)+1:=by omega
       have hd:Below wr.heap.size wr wr.drew:=(Lb _ _).drew;rw[ea] at hlt' hlt2 ⊢;clear y1 y2 y3 y4 y5 y6 ho hb hm hlt hx hy hz zx zy hcc ha
       go_upto_region 11 with (fail)
       obtain⟨i0,hi0,hz0,hz1,hz2⟩:=info_parts Tryz.infoS;have HO:Hid (∀W,Below wr.heap.size wr W->(W.alloc (.cells #[.string z] 9)).ownsRow W0.heap.size 9 1 u7 m ((Y4 (clk k) L (j+1) m).map Value.string)):=fun W h=>by
        have:=Yf (Qx HY.out.1 h (La _)) (.cells #[.string z] 9);rw[Qg,YB] at this;exact this
       have HM1:Hid (m+1<=maxLen∧(m+1)*16<=140737488355328):=by have:=HY.out;refine⟨?_,?_⟩;unfold maxLen;omega;omega
       have HS0:Hid (∀W,Below wr.heap.size wr W->W0.heap.size<=(W.alloc (.cells #[.string z] 9)).heap.size):=fun W h=>by have:=(Qa HY.out.2.1 h).size;simp;omega
       have kk:=HK.out wr.drew hd;have HG:Hid (∀w2 w3,Below wr.drew.heap.size wr.drew w2->(w2.alloc (.cells #[.string z] 9)).grownBy w3 u7.ownBlock->Below W0.heap.size W0 w3):=fun w2 w3 h1 h2=>(bal (Qa (Qa HY.out.2.1 hd) h1) _).grown h2 (by have:=(Qa (Qa HY.out.2.1 hd) h1).size;simp;omega) (fun q hq=>(HY.out.1.lt q hq).1)
       have HK3:Hid (∀w2 w3,Below wr.drew.heap.size wr.drew w2->(w2.alloc (.cells #[.string z] 9)).grownBy w3 u7.ownBlock->w3.cell? ⟨g,a,none⟩=some (.string x)∧w3.cell? ⟨g,a+1,none⟩=some (.string y)):=fun w2 w3 h1 h2=>HK0.out w3 (HG.out w2 w3 h1 h2)
       go_region_held3 (fun w'=>w'.cell? ⟨g,a,none⟩=some (.string x)∧w'.cell? ⟨g,a+1,none⟩=some (.string y)) (first|assumption|(exact HK3.out _ _ hb2 hgrow)|(exact HK.out _ (Qa hd hb2))|(exact HK.out _ (bal (Qa hd hb2) _))) (first
        | (go_at_call 190;with_reducible refine(HNd.out _ hd).mono ?_;rintro e w2 ⟨rfl,hb2⟩)
        | (refine step_append_lies _ (by rfl) _ _ _ (by rfl) W0.heap.size 9 i0 _ 1 16 underlying22 hi0 hz0 hz1 hz2 rfl (by omega) u7 m ((Y4 (clk k) L (j+1) m).map Value.string) (by rfl) (HO.out _ (Qa hd hb2)) ⟨w2.heap.size,0,none⟩ 1 1 [.string z] (by rfl) (by rfl) (World.news_of_block (cs:=#[.string z]) (t:=9) (fr:=(0,0)) (Lt w2 _)) (by simp[Value.oneCell']) (by omega) HM1.out.1 HM1.out.2 (HS0.out _ (Qa hd hb2)) (w2.heap.size+1) (by simp) ?_;intro gg cap_1 w3 hown3 hgrow hat hlt3))
       have HZ:Hid (Qg w3 W0.heap.size (.slice (Zp gg) (m+1) cap_1) (Y4 (clk k) L (j+1) (m+1))∧Below W0.heap.size W0 w3):=⟨by
        rw[Qg,YB,<-HY.out.2.2.1,LL];exact hown3,HG.out _ _ hb2 hgrow⟩
       clear hown3 hgrow hat hlt3 HG HK3 HK HK0 HNd HO HS0 kk;have HEa:=Qd ea;clear ea;go_wp2
       go_roundg (M-(m+1))
       case rel=>go_light;exact⟨m+1,HY.out.2.2.2.2.1,rfl,by have:=HEa.out;rw[show 2*((m+1:Nat):Int)=(a:Int)+2 by omega],HZ.out.1,HZ.out.2⟩
       case measure=>go_light;have:=HY.out.2.2.2.2.1;omega
      ·obtain rfl:m=M:=by omega
       obtain⟨a,ha⟩:∃a,2*m=a:=⟨_,rfl⟩;have ea:2*(m:Int)=(a:Int):=by omega
       have hlt':¬((a:Int)+1<(N:Int)):=by omega
       have e1:IntKind.i64.wrap ((a:Int)+1)=(a:Int)+1:=by rw[Lz];omega
       rw[ea];have HY:Hid (Qg wr w.heap.size u7 (Y4 (clk k) L (j+1) m)∧Below w.heap.size w wr∧2^(H-(j+1))=m∧j+1<=H∧m<=1099511627776):=⟨World.ownsRow.mono ho y2.size,Qa y2 hb,y4,y5,by omega⟩
       clear y1 y2 y3 y4 y5 y6 ho hb hm hlt HX ha ea;go_wp2
       go_roundg (H-(j+1))
       case rel=>go_light;obtain⟨k1,k2,k3,k4,k5⟩:=HY.out;exact⟨j+1,m,k4,rfl,⟨k3,k5⟩,k1,k2⟩
       case measure=>go_light;have:=HY.out.2.2.2.1;omega
    ·obtain rfl:j=H:=by omega
     obtain⟨n1,n2⟩:=hNN;rw[NH,Iv] at n1;subst n1;have k1:=(UW ho (j:=0) (by rw[YB];decide)).1
     rw[Qdn _ _ _ _ (by decide),hq.out] at k1
     have h1:¬((1:Int)<1):=by decide
     have HB:Hid (Below w.heap.size w wr):=hb;clear ho hb hcp hcm hg HJ n2 hN0 hj hjl;go_wp2
     go_ret
     exact⟨rfl,HB.out⟩
theorem RdS.cut{w:World}{b off len:Nat}{ss:LB}(h:RdS w (some ⟨b,off,none⟩) b off len ss)(i n:Nat)(hn:i+n<=len):RdS w (some ⟨b,off+i,none⟩) b (off+i) n ((ss.drop i).take n):=by
 refine⟨by rw[LA,LS,h.hl];omega,fun _=>rfl,fun j v hv=> ?_,fun s hs=>h.sz s (Nu (Nm hs))⟩
 rw[NN,Nb] at hv
 split at hv
 ·rw[Ih,NI] at hv;rw[Nr];exact h.rng (i+j) v hv
 ·cases hv
def gen{α:Type}(f:Nat->α)(n:Nat):Nat->List α
 | 0=>[]
 | h+1=>(if n/2^h%2=1 then [f h] else [])++gen f n h
theorem QgE(c:Nat)(L:LB):∀h,gen (fun s=>nd c L s (L.length/2^s-1)) L.length h=pks c L h
 | 0=>rfl
 | h+1=>by rw[gen,pks,QgE c L h]
theorem QcO{α β:Type}(g:α->β)(f:Nat->α)(n:Nat):∀h,(gen f n h).map g=gen (fun s=>g (f s)) n h
 | 0=>rfl
 | h+1=>by
  rw[gen,gen,LL,QcO g f n h]
  by_cases e:n/2^h%2=1
  ·rw[Lm e,Lm e];rfl
  ·rw[Ld e,Ld e];rfl
theorem Qbg{α:Type}{f:Nat->α}{n h:Nat}(e:n/2^h%2≠1):gen f n (h+1)=gen f n h:=by rw[gen,Ld e];rfl
theorem QcQ{α:Type}{f:Nat->α}{n h:Nat}(e:n/2^h%2=1):gen f n (h+1)=f h::gen f n h:=by rw[gen,Lm e];rfl
theorem Qbh{α:Type}{f:Nat->α}{n s:Nat} : ∀d,n%2^(s+d)<2^s->gen f n (s+d)=gen f n s
 | 0,_=>rfl
 | d+1,h=>by
  have hs:2^s<=2^(s+d):=Nc (by decide) (by omega)
  have h2:n%2^(s+(d+1))/2^(s+d)%2≠1:=Qhd (by omega)
  rw[Qgj (by omega)] at h2
  rw[show s+(d+1)=s+d+1 by omega,Qbg h2]
  refine Qbh d ?_
  have:n%2^(s+d)=n%2^(s+(d+1))%2^(s+d):=by
   rw[show s+(d+1)=(s+d)+1 by omega,LJ,Nat.mod_mul_right_mod]
  rw[this,Nz (Lv h hs)];exact h
theorem QjC{α:Type}{f:Nat->α}{n g s:Nat}(h1:2^s<=n%2^g)(h2:n%2^g<2^(s+1)):gen f n g=f s::gen f n s:=by
 obtain⟨hsg,e2,e1,_⟩:=Qg5 h1 h2;obtain⟨d,rfl⟩:∃d,g=s+1+d:=⟨g-s-1,by omega⟩
 rw[Qbh d (by rw[e1,<-e1];exact h2),QcQ e2]
theorem QjD{α:Type}{f:Nat->α}{n g:Nat}(h:n%2^g=0):gen f n g=[]:=by
 have:=Qbh (f:=f) (n:=n) (s:=0) g (by rw[Lo,h];decide)
 rw[Lo] at this;rw[this,gen]
theorem QcN{α:Type}(f:Nat->α)(n:Nat):∀h,(gen f n h).length<=h
 | 0=>La _
 | h+1=>by
  have:=QcN f n h
  by_cases e:n/2^h%2=1
  ·rw[QcQ e,LD];omega
  ·rw[Qbg e];omega
theorem QcP{n:Nat} : ∀h s,s∈gen id n h->s<h∧n/2^s%2=1
 | 0,s,hs=>by cases hs
 | h+1,s,hs=>by
  by_cases e:n/2^h%2=1
  ·rw[QcQ e] at hs
   rcases List.mem_cons.1 hs with rfl|hs
   ·exact⟨IH _,e⟩
   ·have:=QcP h s hs;exact⟨by omega,this.2⟩
  ·rw[Qbg e] at hs;have:=QcP h s hs;exact⟨by omega,this.2⟩
def cP:List (Nat×Nat)->List Value
 | []=>[]
 | p::r=> .int .i64 p.1 :: .int .i64 p.2::cP r
theorem Qof(l m:List (Nat×Nat)):cP (l++m)=cP l++cP m:=by
 induction l with
 | nil=>rfl
 | cons b r ih=>simp[cP,ih]
theorem Qog(l:List (Nat×Nat))(j:Nat)(hj:j<l.length):(cP l)[j*2]? = some (.int .i64 ((l.getD j (0,0)).1:Int))∧(cP l)[j*2+1]? = some (.int .i64 ((l.getD j (0,0)).2:Int)):=by
 induction l generalizing j with
 | nil=>simp at hj
 | cons b r ih=>
  cases j with
  | zero=>exact⟨rfl,rfl⟩
  | succ j=>
   have:=ih j (by simpa using hj)
   rw[show(j+1)*2=j*2+1+1 by omega]
   simpa [cP] using this
theorem Tryz.infoP:(prog.info? 196).map (fun i=>(i.zero,i.size,i.bytes))=some (some (.agg #[.int .i64 0,.int .i64 0]),2,16):=by kernel_rfl
def O7(w:World)(B:Nat)(v:Value)(l:List (Nat×Nat)):Prop:=w.ownsRow B 196 2 v l.length (cP l)
theorem Qch{w W:World}{B:Nat}{v:Value}{l:List (Nat×Nat)}(h:O7 w B v l)(hb:Below w.heap.size w W):O7 W B v l:=by
 obtain⟨h1,h2⟩:=h;refine⟨h1,?_⟩
 rcases h2 with h2|⟨g,cap,cur,rfl,hg,hh,r⟩
 ·exact .inl h2
 ·exact .inr ⟨g,cap,cur,rfl,hg,by rw[hb.block g (Array.getElem?_eq_some_iff.1 hh).1];exact hh,r⟩
theorem Qkw(w:World)(B:Nat):O7 w B (.slice none 0 0) []:=⟨rfl,.inl ⟨rfl,rfl⟩⟩
theorem QhZ{w:World}{B g n cap:Nat}{l:List (Nat×Nat)}(h:O7 w B (.slice (Zp g) n cap) l){j:Nat}(hj:j<l.length):w.cell? ⟨g,j*2,none⟩=some (.int .i64 ((l.getD j (0,0)).1:Int))∧w.cell? ⟨g,j*2+1,none⟩=some (.int .i64 ((l.getD j (0,0)).2:Int)):=by
 obtain⟨k1,k2⟩:=Qog l j hj;have h1:=II h (g:=g) rfl _ _ k1;have h2:=II h (g:=g) rfl _ _ k2;rw[Addr.add_mid,Lo] at h1 h2;exact⟨h1,h2⟩
theorem QaF(w:World){ops:Array Oper}{rest:List Oper}{o:Oper}{a:Act}{Q:Exit->Act->World->Prop}
  (hg:o.guard=none) (s x:Operand) (hop:o.op=Op.call { callee:=Callee.builtin Builtin.append,args:=#[s,x],argTypes:=#[194,194] })
  (B:Nat) (v:Value) (L:List (Nat×Nat)) (w0:World) (p q:Nat) (hw:w=w0.alloc (.cells #[.int .i64 p,.int .i64 q] 196)) (hs:a.eval s=v) (hown:O7 w B v L) (hx:a.eval x= .slice (Zp w0.heap.size) 1 1)
  (hlen:L.length+1<=1048576) (hB:B<=w.heap.size)
  (hK:∀v' w',O7 w' B v' (L++[(p,q)])->Below B w w'->wpList prog ops Q rest (a.put o.dst v') w'):wpList prog ops Q (o::rest) a w:=by
 obtain⟨i0,hi,hz0,hz1,hz2⟩:=info_parts Tryz.infoP;have hlt:∀k,v.ownBlock=some k->B<=k:=by
  obtain⟨_,h2⟩:=hown
  rcases h2 with ⟨rfl,_⟩|⟨g,cp,cur,rfl,hg,_⟩
  ·intro k hk;cases hk
  ·intro k hk;cases hk;exact hg
 have hnews:∀j u,([.int .i64 p,.int .i64 q]:List Value)[j]? = some u->w.cell? ((⟨w0.heap.size,0,none⟩:Addr).add j)=some u:=by
  subst hw;exact World.news_of_block (cs:=#[.int .i64 p,.int .i64 q]) (t:=196) (fr:=(0,0)) (Lt w0 _)
 refine wpList_append_own w hg s x _ hop B 196 i0 (.agg #[.int .i64 0,.int .i64 0]) 2 16 underlying194 hi hz0 hz1 hz2 rfl (by decide) _ _ _ hs hown ⟨w0.heap.size,0,none⟩ 1 1 [.int .i64 p,.int .i64 q] hx rfl hnews (by intro u hu;simp at hu;rcases hu with rfl|rfl <;> rfl) (by unfold maxLen;omega) (by omega) hB ?_
 intro v' w' h1 h2 _;refine hK v' w' ?_ ((Lb _ _).grown h2 hB hlt)
 rw[O7,Le,Qof];exact h1
def mtP(n s:Nat):Nat×Nat:=((n/2^s-1)*2^s,2^s)
theorem Yj(w:World)(n:Nat)(hn:n<=1099511627776)(P:List (Nat×Nat))(hP:Hid (gen (mtP n) n 41=P)) :
  Calls prog 111 #[.int .i64 n] w fun e w'=> ∃v,e= .returned v∧O7 w' w.heap.size v P∧Below w.heap.size w w':=by
 have hb:=Lb w.heap.size w;have HS:Hid ([]++gen (mtP n) n 41=P):=by rw[Ny];exact hP
 have HPl:Hid (P.length<=41):=by show _<=_;rw[<-hP.out];exact QcN _ _ _
 have HN:Hid (n<=1099511627776):=hn;have hn':(n:Int)<=1099511627776:=by omega
 clear hn hP
 go_enter func111,ntmps111;go_wp2
 go_loopg [3,4] n (fun gg v a wr=> ∃(g t:Nat) (A:List (Nat×Nat)),t<=n∧gg=n-t∧a= .int .i64 t∧Hid (t+n%2^g=n∧A++gen (mtP n) n g=P)∧O7 wr w.heap.size v A∧Below w.heap.size w wr)
 case atStart=>go_light;exact⟨41,0,[],Ln _,rfl,rfl,⟨by have:=HN.out;omega,HS.out⟩,Qkw _ _,hb⟩
 case round=>
  clear hb HS;obtain⟨g,t,A,htn,rfl,rfl,HE,ho,hb⟩:=hrel;have ht0:(0:Int)<=(t:Int):=Lh _
  by_cases hlt:t<n
  ·have hlt':(t:Int)<(n:Int):=by omega
   have HX:Hid (O7 wr w.heap.size u3 A∧Below w.heap.size w wr∧t<n):=⟨ho,hb,hlt⟩;obtain⟨m,hm⟩:∃m,n-t=m:=⟨_,rfl⟩;have em:IntKind.i64.wrap ((n:Int)-(t:Int))=(m:Int):=by rw[Lz];omega
   have HMn:Hid (t+m=n):=by show _=_;omega
   clear ho hb htn hlt hm;go_wp2
   go_loopg [5] 64 (fun gg zv wx=> ∃(h z:Nat),h<=64∧gg=64-h∧zv= .int .i64 z∧Hid (2^h=z∧z<=m)∧wr=wx)
   case atStart=>go_light;exact⟨0,1,by omega,rfl,rfl,⟨rfl,by have:=HX.out.2.2;have:=HMn.out;omega⟩,rfl⟩
   case round=>
    obtain⟨h,z,hh64,rfl,rfl,HH,rfl⟩:=hrel;have hz:=HH.out;have hmm:=HMn.out;have hnn:=HN.out;have hh40:h<=40:=by
     apply Ik
     intro h9;have:=Nc (n:=2) (by decide) (show 41<=h from h9)
     omega
    obtain⟨q,hq⟩:∃q,2*z=q:=⟨_,rfl⟩;have e1:IntKind.i64.wrap (2*(z:Int))=(q:Int):=by rw[Lz];omega
    by_cases hgo:q<=m
    ·have hgo':(q:Int)<=(m:Int):=by omega
     have HY:Hid (2^(h+1)=q∧q<=m∧h<=40):=⟨by rw[LJ,hz.1];omega,hgo,hh40⟩
     clear HH hq hgo hh64 hh40 hz hmm hnn;go_wp2
     go_roundg (64-(h+1))
     case rel=>go_light;exact⟨h+1,q,by have:=HY.out.2.2;omega,rfl,rfl,⟨HY.out.1,HY.out.2.1⟩,rfl⟩
     case measure=>go_light;have:=HY.out.2.2;omega
    ·have hgo':¬((q:Int)<=(m:Int)):=by omega
     have hE:=HE.out;have hg1:2^h<=n%2^g:=by omega
     have hg2:n%2^g<2^(h+1):=by rw[LJ];omega
     obtain⟨hsg,hbit,hm1,hm2⟩:=Qg5 hg1 hg2;obtain⟨hat,hge⟩:=Qeo hbit;have hat2:(n/2^h-1)*2^h=t:=by omega
     have e7:IntKind.i64.wrap ((t:Int)+(z:Int))=(t:Int)+(z:Int):=by rw[Lz];omega
     have HNx:Hid (t+z<=n∧t+z+n%2^h=n∧A++[(t,z)]++gen (mtP n) n h=P∧1<=z):=by
      refine⟨by omega,by omega,?_,?_⟩
      ·have h3:=QjC (f:=mtP n) hg1 hg2;rw[mtP,hat2,hz.1] at h3;rw[<-hE.2,h3];simp
      ·rw[<-hz.1];exact LP h
     clear hgo hg1 hg2 hsg hbit hm1 hm2 hat hge hat2 hE HE HH hz hmm hnn hh40 hh64 hq
     go_wp2_with (at_builtin;refine QaF _ rfl _ _ rfl w.heap.size _ A wr t z rfl rfl (Qch HX.out.1 (bal (Lb _ _) _)) rfl ?c1 ?c2 ?_)
     case c1=>have h1:=LW List.length HNx.out.2.2.1;have h2:=HPl.out;simp at h1;omega
     case c2=>have:=HX.out.2.1.size;simp;omega
     intro v2 w6 h6 hb6;have HY:Hid (O7 w6 w.heap.size v2 (A++[(t,z)])∧Below w.heap.size w w6):=⟨h6,(bal HX.out.2.1 _).trans hb6⟩;clear h6 hb6;go_wp2
     go_roundg (n-(t+z))
     case rel=>go_light;obtain⟨k1,k2,k3,k4⟩:=HNx.out;exact⟨h,t+z,A++[(t,z)],k1,rfl,by go_num,⟨k2,k3⟩,HY.out.1,HY.out.2⟩
     case measure=>go_light;obtain⟨k1,k2,k3,k4⟩:=HNx.out;have:=HX.out.2.2;omega
  ·obtain rfl:t=n:=by omega
   have hlt':¬((t:Int)<(t:Int)):=by omega
   have HA:Hid (A=P):=by
    obtain⟨k1,k2⟩:=HE.out;rw[QjD (by omega),Nd] at k2
    exact k2
   clear HE;go_wp2
   go_ret
   exact⟨_,rfl,by rw[<-HA.out];exact ho,hb⟩
theorem Qir{α:Type}(d:α)(l:List α)(i:Nat)(h:i<l.length):l.take i++[l.getD i d]=l.take (i+1):=by
 rw[L4 h,Lc,Ll h];rfl
theorem Qel{α β:Type}(f:α->β)(d:α)(e:β)(l:List α)(i:Nat)(h:i<l.length):(l.map f).getD i e=f (l.getD i d):=by
 simp[List.getD_eq_getElem?_getD,List.getElem?_eq_getElem h]
theorem QfS(w:World)(ht:Tr w)(k:Int)(ao:OA)(b off len cap:Nat)(L:LB)(hr:RdS w ao b off len L)(hsz:∀s∈L,s.size<=140737488351232)(hmx:len<=1099511627776)(hc:len<=cap)(P:LB)(hP:Hid (pks (clk k) L 41=P)) :
  Calls prog 60 #[.int .i64 k,.slice ao len cap] w fun e w'=> ∃v,e= .returned v∧Qg w' w.heap.size v P∧Below w.heap.size w w':=by
 obtain⟨Hs,hHs⟩:∃Hs,Hid (gen id len 41=Hs):=⟨_,rfl⟩;obtain⟨M,hM⟩:∃M,Hid (gen (mtP len) len 41=M):=⟨_,rfl⟩;have HMt:=fun W=>Yj W len hmx M hM
 have hLl:=hr.hl;have eM:M=Hs.map (mtP len):=by
  have h1:=QcO (mtP len) id len 41;rw[hHs.out] at h1;rw[h1];exact hM.out.symm
 have eP:P=Hs.map (fun s=>nd (clk k) L s (len/2^s-1)):=by
  have h1:=QcO (fun s=>nd (clk k) L s (len/2^s-1)) id len 41
  have h2:=QgE (clk k) L 41;rw[hHs.out] at h1;rw[hLl] at h2;rw[h1];exact hP.out.symm.trans h2.symm
 have lH:Hs.length<=41:=by rw[<-hHs.out];exact QcN _ _ _
 have lM:M.length=Hs.length:=by rw[eM];simp
 have lP:P.length=Hs.length:=by rw[eP];simp
 have HT:Hid (Tr w∧RdS w ao b off len L∧(∀s∈L,s.size<=140737488351232)∧len<=1099511627776∧len<=cap):=⟨ht,hr,hsz,hmx,hc⟩;have HV:Hid (∀i,i<Hs.length -> ∃s t z i',s<=40∧2^s=z∧M.getD i (0,0)=(t,z)∧t+z<=len∧t=i' * 2^s∧P.getD i ByteArray.empty=nd (clk k) L s i'):=fun i hi=>by
  obtain⟨s,hs⟩:∃s,Hs.getD i 0=s:=⟨_,rfl⟩;have hmem:s∈gen id len 41:=by
   rw[hHs.out,<-hs,Lc,Ll hi];exact LZ _
  obtain⟨hs41,hbit⟩:=QcP 41 s hmem;obtain⟨hat,hge⟩:=Qeo hbit;refine⟨s,(len/2^s-1)*2^s,2^s,len/2^s-1,by omega,rfl,?_,?_,rfl,?_⟩
  ·rw[eM,Qel _ 0 _ _ _ hi,hs,mtP]
  ·have h5:=Ii len (2^s);rw[Nat.sub_mul,Na];have:1*2^s<=len/2^s*2^s:=LM _ hge;omega
  ·rw[eP,Qel _ 0 _ _ _ hi,hs]
 have HSz:Hid (∀s∈P,s.size<=9223372036854775807):=fun s hs=>by rw[<-hP.out] at hs;rw[QbD (Qs k) _ _ s hs];have:=Qs k;omega
 have hb:=Lb w.heap.size w;have HL:Hid (Hs.length<=41∧M.length=Hs.length∧P.length=Hs.length):=⟨lH,lM,lP⟩;clear ht hr hsz hmx hc hP hHs hM hLl eM eP lH lM lP
 go_enter func60,ntmps60
 go_wp2_with (go_at_call 111;with_reducible refine(HMt _).mono ?_;rintro e w1 ⟨vM,rfl,hoM,hb1⟩)
 clear HMt;obtain⟨q,hq⟩:∃q,Hs.length=q:=⟨_,rfl⟩;obtain⟨aoM,cM,hvM,hoM2⟩:∃aoM cM,vM= .slice aoM q cM∧(0<q -> ∃g,aoM=Zp g∧O7 w1 w.heap.size (.slice (Zp g) q cM) M):=by
  have hl:=HL.out.2.1
  rcases hoM.2 with ⟨hv,h0⟩|⟨g,cp,cur,hv,_⟩
  ·refine⟨none,0,?_,fun h=> ?_⟩
   ·rw[hv,show q=0 by omega]
   ·omega
  ·refine⟨Zp g,cp,?_,fun _=>⟨g,rfl,?_⟩⟩
   ·rw[hv,hl,hq]
   ·have:=hoM;rw[hv,hl,hq] at this;exact this
 subst hvM;rw[hq] at HL HV;have HO:Hid (0<q -> ∃g,aoM=Zp g∧O7 w1 w.heap.size (.slice (Zp g) q cM) M):=hoM2;have HB1:Hid (Below w.heap.size w w1):=hb1;have hq41:(q:Int)<=41:=by have:=HL.out.1;omega
 clear hoM hoM2 hb1 hq
 go_loopg [6,7] q (fun gg v i0 wr=> ∃i:Nat,i<=q∧gg=q-i∧i0= .int .i64 i∧Qg wr w1.heap.size v (P.take i)∧Below w1.heap.size w1 wr)
 case atStart=>go_light;exact⟨0,Ln _,rfl,rfl,Um _ _,Lb _ _⟩
 case round=>
  obtain⟨i,hi,rfl,rfl,ho,hb2⟩:=hrel;have hi0:(0:Int)<=(i:Int):=Lh _
  by_cases hlt:i<q
  ·have hlt':(i:Int)<(q:Int):=by omega
   obtain⟨g,rfl,hoM⟩:=HO.out (by omega)
   obtain⟨s,t,z,i',hs40,hz,hM,htz,hti,hPi⟩:=HV.out i hlt;obtain⟨t1,t2,t3,t4,t5⟩:=HT.out;have hz0:0<z:=by rw[<-hz];exact LP s
   obtain rfl:=t2.ptr (by omega)
   obtain⟨x,hx⟩:∃x,P.getD i ByteArray.empty=x:=⟨_,rfl⟩;rw[hx] at hPi;have HTr:Hid (∀W,Below w1.heap.size w1 W->Calls prog 112 #[.int .i64 k,.slice (some ⟨b,off+t,none⟩) z (cap-t)] W fun e w'=>e= .returned (.string x)∧Below W.heap.size W w'):=fun W hb=>by
    refine Qij W (t1.next (Qa HB1.out hb)) k _ b (off+t) (cap-t) s z hs40 hz ((L.drop t).take z) ((t2.next (Qa HB1.out hb) (La _)).cut t z (by omega)) (fun y hy=>t3 y (Nu (Nm hy))) x ?_
    show _=_
    rw[hti,<-hz,QoO];exact hPi.symm
   have hlM:=HL.out;have HK0:Hid (∀W,Below w1.heap.size w1 W->W.cell? ⟨g,i*2,none⟩=some (.int .i64 t)∧W.cell? ⟨g,i*2+1,none⟩=some (.int .i64 z)):=fun W h=>by
    have:=QhZ (Qch hoM h) (j:=i) (by omega)
    rw[hM] at this;exact this
   have HY:Hid (Qg wr w1.heap.size u6 (P.take i)∧Below w1.heap.size w1 wr∧P.take i++[x]=P.take (i+1)∧i+1<=q∧q<=41∧(P.take i).length=i):=⟨ho,hb2,by rw[<-hx];exact Qir _ _ _ (by omega),hlt,by omega,by rw[LA];omega⟩
   obtain⟨y,hy⟩:∃y,t+z=y:=⟨_,rfl⟩;have e1:IntKind.i64.wrap ((t:Int)+(z:Int))=(y:Int):=by rw[Lz];omega
   have s0:(0:Int)<=(t:Int):=Lh _;have s1:(t:Int)<=(y:Int):=by omega
   have s2:(y:Int)<=(cap:Int):=by omega
   have s3:¬(cap=t):=by omega
   have s4:y-t=z:=by omega
   have hd:Below w1.heap.size w1 wr.drew:=(hb2).drew;obtain⟨i0,hi0',hz0',hz1,hz2⟩:=info_parts Tryz.infoS;have HO2:Hid (∀W,Below wr.drew.heap.size wr.drew W->(W.alloc (.cells #[.string x] 9)).ownsRow w1.heap.size 9 1 u6 i ((P.take i).map Value.string)):=fun W h=>by
    have:=Yf (Qx HY.out.1 (Qa ((Lb _ _).drew) h) (La _)) (.cells #[.string x] 9);rw[Qg,HY.out.2.2.2.2.2] at this;exact this
   have HM1:Hid (i+1<=maxLen∧(i+1)*16<=140737488355328):=by have:=HY.out;refine⟨?_,?_⟩;unfold maxLen;omega;omega
   have HS0:Hid (∀W,Below wr.drew.heap.size wr.drew W->w1.heap.size<=(W.alloc (.cells #[.string x] 9)).heap.size):=fun W h=>by have:=(Qa hd h).size;simp;omega
   have HG:Hid (∀w2 w3,Below wr.drew.heap.size wr.drew w2->(w2.alloc (.cells #[.string x] 9)).grownBy w3 u6.ownBlock->Below w1.heap.size w1 w3):=fun w2 w3 h1 h2=>(bal (Qa hd h1) _).grown h2 (by have:=(Qa hd h1).size;simp;omega) (fun q hq=>(HY.out.1.lt q hq).1)
   have HK:Hid (∀W,Below wr.drew.heap.size wr.drew W->W.cell? ⟨g,i*2,none⟩=some (.int .i64 t)∧W.cell? ⟨g,i*2+1,none⟩=some (.int .i64 z)):=fun W h=>HK0.out W (Qa hd h)
   have HK3:Hid (∀w2 w3,Below wr.drew.heap.size wr.drew w2->(w2.alloc (.cells #[.string x] 9)).grownBy w3 u6.ownBlock->w3.cell? ⟨g,i*2,none⟩=some (.int .i64 t)∧w3.cell? ⟨g,i*2+1,none⟩=some (.int .i64 z)):=fun w2 w3 h1 h2=>HK0.out w3 (HG.out w2 w3 h1 h2)
   have kk:=HK0.out wr.drew hd;have HD:Hid (Below w1.heap.size w1 wr.drew):=hd;clear ho hb2 hoM hs40 hz hM htz hti hPi t1 t2 t3 t4 t5 hz0 hx hlM hi hlt hd hy
   go_upto_region 6 with (fail)
   go_region_held3 (fun w'=>w'.cell? ⟨g,i*2,none⟩=some (.int .i64 t)∧w'.cell? ⟨g,i*2+1,none⟩=some (.int .i64 z)) (first|assumption|(exact HK3.out _ _ hb2 hgrow)|(exact HK.out _ hb2)|(exact HK.out _ (bal hb2 _))) (first
    | (go_at_call 112;with_reducible refine(HTr.out _ HD.out).mono ?_;rintro e w2 ⟨rfl,hb2⟩)
    | (refine step_append_lies _ (by rfl) _ _ _ (by rfl) w1.heap.size 9 i0 _ 1 16 underlying22 hi0' hz0' hz1 hz2 rfl (by omega) u6 i ((P.take i).map Value.string) (by rfl) (HO2.out _ hb2) ⟨w2.heap.size,0,none⟩ 1 1 [.string x] (by rfl) (by rfl) (World.news_of_block (cs:=#[.string x]) (t:=9) (fr:=(0,0)) (Lt w2 _)) (by simp[Value.oneCell']) (by omega) HM1.out.1 HM1.out.2 (HS0.out _ hb2) (w2.heap.size+1) (by simp) ?_;intro gg cap_1 w3 hown3 hgrow hat hlt3))
   have HZ:Hid (Qg w3 w1.heap.size (.slice (Zp gg) (i+1) cap_1) (P.take (i+1))∧Below w1.heap.size w1 w3):=⟨by
    obtain⟨y1,y2,y3,y4,y5,y6⟩:=HY.out;rw[Qg,<-y3,Le,y6,LL];exact hown3,HG.out _ _ hb2 hgrow⟩
   clear hown3 hgrow hat hlt3 HG HK3 HK HK0 HTr HO2 HS0 kk;go_wp2
   go_roundg (q-(i+1))
   case rel=>go_light;exact⟨i+1,HY.out.2.2.2.1,rfl,by go_num,HZ.out.1,HZ.out.2⟩
   case measure=>go_light;have:=HY.out.2.2.2.1;omega
  ·obtain rfl:i=q:=by omega
   have hlt':¬((i:Int)<(i:Int)):=by omega
   have HZ:Hid (Qg wr w.heap.size u6 P∧Below w.heap.size w wr):=⟨by
    rw[Lr (by have:=HL.out;omega)] at ho
    exact World.ownsRow.mono ho HB1.out.size,Qa HB1.out hb2⟩
   clear ho hb2 hi hlt HO HV;go_wp2
   go_ret
   exact⟨_,rfl,HZ.out.1,HZ.out.2⟩
theorem QfU(w:World)(k:Int)(h1:1<=k)(h2:k<=32)(ao:OA)(len cap n:Nat)(hn:len<n)(hmx:len<=8796093022208) :
  Calls prog 21 #[.int .i64 k,.slice ao len cap,.int .u64 n] w fun e w'=>e= .returned (.tuple #[.agg #[.int .u64 0,.string ⟨#[]⟩],.int .i64 30])∧Below w.heap.size w w':=by
 have HC:=fun W=>OU W k
 rw[QiY h1 h2] at HC;have e0:IntKind.u64.wrap (len:Int)=(len:Int):=Us _ (by omega) (by omega)
 have hn':(len:Int)<(n:Int):=by omega
 have hb:=Lb w.heap.size w;clear h1 h2 hn hmx
 go_enter func21,ntmps21
 go_wp2_with (go_at_call 58;with_reducible refine(HC _).mono ?_;rintro e w1 ⟨rfl,rfl⟩)
 refine LK (v := .tuple #[.agg #[.int .u64 0,.string ⟨#[]⟩],.int .i64 30]) (by simp[results,results21,go_sem]) rfl ⟨rfl,?_⟩
 exact bal hb _
theorem QeQ(w:World)(ht:Tr w)(k:Int)(h1:1<=k)(h2:k<=32)(ao:OA)(b off len cap:Nat)(L:LB)(hr:RdS w ao b off len L)(hsz:∀s∈L,s.size<=140737488351232)(hmx:len<=1099511627776)(hc:len<=cap)(n:Nat)(hn:n<=len)(r:BA)(hq:Hid (rtD (clk k) L n=r)) :
  Calls prog 21 #[.int .i64 k,.slice ao len cap,.int .u64 n] w fun e w'=>e= .returned (.tuple #[.agg #[.int .u64 n,.string r],.int .i64 0])∧Below w.heap.size w w':=by
 have HC:=fun W=>OU W k
 rw[QiY h1 h2] at HC;have e0:IntKind.u64.wrap (len:Int)=(len:Int):=Us _ (by omega) (by omega)
 have hn':¬((len:Int)<(n:Int)):=by omega
 have hn2:(n:Int)<=(cap:Int):=by omega
 obtain⟨P,hP⟩:∃P,Hid (pks (clk k) (L.take n) 41=P):=⟨_,rfl⟩;have HPk:Hid (∀W,Below w.heap.size w W->Calls prog 60 #[.int .i64 k,.slice ao n cap] W fun e w'=> ∃v,e= .returned v∧Qg w' W.heap.size v P∧Below W.heap.size W w'):=fun W hb=>QfS W (ht.next hb) k ao b off n cap (L.take n) ((hr.next hb (La _)).take hn) (fun s hs=>hsz s (Nm hs)) (by omega) (by omega) P hP
 have zP:∀s∈P,s.size<=140737488351232:=by rw[<-hP.out];exact small (Qs k)
 have lP:P.length<=41:=by rw[<-hP.out];exact Qdc _ _ _
 have HQ:Hid (dg (clk k) (YA n (QU (clk k) P))=r):=by rw[<-hP.out];exact hq
 have HRo:Hid (∀W,Below w.heap.size w W -> ∀ao' b' cap',RdS W ao' b' 0 P.length P->Calls prog 59 #[.int .i64 k,.int .u64 n,.slice ao' P.length cap'] W fun e w'=>e= .returned (.string r)∧Below W.heap.size W w'):=fun W hb ao' b' cap' hr'=>QeJ W (ht.next hb) k n (by omega) ao' b' 0 P.length cap' P hr' zP (by omega) r HQ.out
 have HZ:Hid (∀s∈P,s.size<=9223372036854775807):=fun s hs=>Lu (zP s hs) (by decide)
 have hb:=Lb w.heap.size w;have HN:=QfX w 0 ⟨#[]⟩ 50;rw[show((0:Nat):Int)=0 from rfl] at HN
 have HN2:=Qd HN;clear h1 h2 hn hmx hc hr hsz ht hq hP zP lP HQ HN
 go_enter func21,ntmps21
 go_wp2_with (first
  | (go_at_call 58;with_reducible refine(HC _).mono ?_;rintro e w1 ⟨rfl,rfl⟩)
  | (go_at_call 60;with_reducible refine(HPk.out _ (bal hb _)).mono ?_;rintro e w2 ⟨v,rfl,ho,hb2⟩;obtain⟨ao',b',cap',rfl,hr',_,_⟩:=QH ho HZ.out)
  | (go_at_call 59;with_reducible refine(HRo.out _ (Qa (bal hb _) hb2) _ _ _ hr').mono ?_;rintro e w3 ⟨rfl,hb3⟩;have hR:=(HN2.out.below hb2 (by simp)).below hb3 (by have:=hb2.size;simp at this;omega);have k0:=hR.c0;have k1:=hR.c1;have f0:=hR.f0;have f1:=hR.f1))
 have s0:(w3.setCell ⟨w.heap.size,0,none⟩ (.int .u64 n)).cell? ⟨w.heap.size,0,none⟩=some (.int .u64 n):=LX _ _ _ k0;have s1:((w3.setCell ⟨w.heap.size,0,none⟩ (.int .u64 n)).setCell ⟨w.heap.size,1,none⟩ (.string r)).cell? ⟨w.heap.size,1,none⟩=some (.string r) :=
  LX _ _ _ ((Lq _ _ _ _ (by simp)).trans k1)
 refine LK (v := .tuple #[.agg #[.int .u64 n,.string r],.int .i64 0]) (by simp[results,results21,go_sem,s0,s1]) rfl ⟨rfl,?_⟩
 exact((Qa (Qa (bal hb _) hb2) hb3).setCell (p:=⟨w.heap.size,0,none⟩) (La _) _).setCell (p:=⟨w.heap.size,1,none⟩) (La _) _
end Go.Proofs.YtoblgjledefdbaaGreatDoor
