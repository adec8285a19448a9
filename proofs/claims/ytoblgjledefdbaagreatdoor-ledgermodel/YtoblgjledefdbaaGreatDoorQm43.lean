/- Own work. -/
import Derived.Deep.AppendLies
import Derived.Test.YtoblgjledefdbaaGreatDoorQm42
set_option maxRecDepth 100000
set_option maxHeartbeats 4000000
namespace Go.Proofs.YtoblgjledefdbaaGreatDoor
open Go.RowKit
attribute [local go_sem ↓] Go.wp_at_zero Go.wp_at_succ
open Go.Proofs.Tryz
structure Fit(k R c:Nat)(L:LB):Prop where
 k1:1<=k
 k2:k<=32
 c1:c<=1048576
 few:L.length<=65536
 sz : ∀s∈L,s.size<=c
 room:(c+152)*L.length<=R
 top:R<=268435456
theorem Fit.init{k R c:Nat}{L:LB}{x:BA}(h:Fit k R c (L++[x])):Fit k R c L :=
 ⟨h.k1,h.k2,h.c1,by have:=h.few;simp at this;omega,fun s hs=>h.sz s (Ig _ hs),by have:=h.room;rw[Lc,NP] at this;omega,h.top⟩
theorem Fit.szs{k R c:Nat}{L:LB}(h:Fit k R c L) : ∀s∈L,s.size<=1048576:=fun s hs=>Lu (h.sz s hs) h.c1
theorem Fit.has{k R c:Nat}{L:LB}{D:St.DV}(h:Fit k R c L)(hd:D.down=false)(he:St.Ext k (itL k L) D.L):Has k L D:=Qg0 h.k1 h.k2 h.few h.szs hd he
theorem QdW{k R c:Nat}{L:LB}(h:Fit k R c L):(St.sA k (itL k L)).ends.length=L.length:=by
 show(St.bA k (itL k L)).ends.length=_
 rw[(Qao h.k1 h.k2 h.few h.szs).lens.ends,JP]
theorem Fit.one{k R c:Nat}{L:LB}{x:BA}{D:St.DV}(h:Fit k R c (L++[x]))(hq:St.Qt R D)(he:St.Ext k (itL k L) D.L) :
  ∃D',aD D (St.sA k (itL k L)) L x=(D',St.sA k (itL k (L++[x])),L++[x],0)∧St.Qt R D'∧St.Ext k (itL k (L++[x])) D'.L∧D'.acts=D.acts+6 :=
 a_qt h.k1 h.k2 (by have:=h.few;simp at this;omega) h.szs hq he (Lu (Qj2 h.k1 h.k2 h.c1 h.few h.sz) h.room) h.top
theorem Qjb{k R c:Nat} : ∀(xs L:LB) (D:St.DV),Fit k R c (L++xs)->St.Qt R D->St.Ext k (itL k L) D.L->D.acts+6*xs.length<=1000000 ->
  ∃D',apD D (St.sA k (itL k L)) L xs=(D',St.sA k (itL k (L++xs)),L++xs,xs.length,0)∧St.Qt R D'∧St.Ext k (itL k (L++xs)) D'.L∧D'.acts=D.acts+6*xs.length∧RmA D (St.sA k (itL k L)) L xs
 | [],L,D,_,hq,he,_=>⟨D,by rw[LS];rfl,hq,by rw[LS];exact he,rfl,trivial⟩
 | x::xs,L,D,hf,hq,he,ha=>by
  rw[show L++x::xs=L++[x]++xs by simp] at hf ⊢
  have hf1:Fit k R c (L++[x]):=⟨hf.k1,hf.k2,hf.c1,by have:=hf.few;rw[Lc] at this;omega,fun s hs=>hf.sz s (Ig _ hs),Lu (Nat.mul_le_mul_left _ (by simp)) hf.room,hf.top⟩
  simp only[List.length_cons] at ha;obtain⟨D1,y1,y2,y3,y4⟩:=hf1.one hq he;obtain⟨D2,z1,z2,z3,z4,z5⟩:=Qjb xs (L++[x]) D1 hf y2 y3 (by omega)
  refine⟨D2,?_,z2,z3,by rw[z4,y4,LE];omega,?_⟩
  ·rw[apD,y1];simp only[if_true];rw[z1];rfl
  ·rw[RmA,y1];exact⟨St.Qhg hq he.oth (hf.top) (by omega),fun _=>z5⟩
theorem Qka{k R:Nat}(k1:1<=k)(k2:k<=32) : ∃D',loD (St.YU R) (k:Int)=(D',some (St.sA k (itL k []),[]),0)∧St.Qt R D'∧St.Ext k (itL k []) D'.L∧D'.acts<=6:=by
 obtain⟨e1,q1⟩:=St.Qg8 k R;obtain⟨D',j,y1,y2,y3,y4,y5,_⟩:=St.Qhb (St.Qmv k1 k2) q1 e1.beh;refine⟨D',?_,y2,y3,by rw[y4];show 0+3+j<=6;omega⟩
 exact QnD (L:=[]) (Qg0 k1 k2 (by simp) (fun s hs=>by cases hs) y2.down y3) y1
theorem Qgg{R:Nat}(k:Nat)(hR:R<=268435456):St.Rm 7 (St.YU R):=by
 obtain⟨e1,q1⟩:=St.Qg8 k R;exact St.Qhg q1 e1.oth hR (show(0:Nat)<=1000000 by decide)
theorem QkJ(w:World)(s t:BA)(hs:s.size<=9223372036854775807)(ht:t.size<=9223372036854775807):RdS (w.alloc (.cells #[.string s,.string t] 9)) (some ⟨w.heap.size,0,none⟩) w.heap.size 0 2 [s,t] :=
 ⟨rfl,fun _=>rfl,Qq w [.string s,.string t] 9,fun x hx=>by
  simp only[List.mem_cons,List.not_mem_nil,or_false] at hx
  rcases hx with rfl|rfl
  ·exact hs
  ·exact ht⟩
theorem QkK(w:World)(n:Nat):RdU (w.alloc (.cells #[.int .u64 (n:Int)] 48)) (some ⟨w.heap.size,0,none⟩) w.heap.size 0 1 [n] :=
 ⟨rfl,fun _=>rfl,Qq w [.int .u64 (n:Int)] 48⟩
theorem Qji(a:UInt8)(l:List UInt8):(⟨(a::l).toArray⟩:BA).toList.isEmpty=false:=by
 rw[Qba];rfl
theorem QbA(w:World)(ht:Tb w):Calls prog 9 #[] w fun e w'=>e = .returned (.bool true)∧Below w.heap.size w w':=by
 obtain⟨D1,o1,o2,o3,o4⟩:=Qka (k:=8) (R:=10000) (by decide) (by decide)
 obtain⟨ca,xC⟩ : ∃ca:BA,ca=⟨#[97]⟩:=⟨_,rfl⟩;obtain⟨cb,xB⟩ : ∃cb:BA,cb=⟨#[98]⟩:=⟨_,rfl⟩;have za:ca.size=1:=by rw[xC];rfl
 have zb:cb.size=1:=by rw[xB];rfl
 have xA:Fit 8 10000 1 ([]++[ca,cb]):=⟨by decide,by decide,by decide,(show(2:Nat)<=65536 by decide),fun s hs=>by
  simp only[List.nil_append,List.mem_cons,List.not_mem_nil,or_false] at hs
  rcases hs with rfl|rfl <;> omega,(show(1+152)*2<=10000 by decide),by decide⟩
 obtain⟨D2,a1,a2,a3,a4,a5⟩:=Qjb [ca,cb] [] D1 xA o2 o3 (by simp only[List.length_cons,List.length_nil];omega)
 simp only[List.nil_append] at a1 a3 xA;have xD:(St.sA 8 (itL 8 [])).ends.length=([]:LB).length:=rfl;have xE:=QdW xA;have hg:gtD D2 (St.sA 8 (itL 8 [ca,cb])) [ca,cb] 1=(cb,0):=(xA.has a2.down a3).get rfl rfl;have HN:Hid (Calls prog 10 #[.int .i64 10000] w fun e w' => ∃p,e = .returned (.pointer (some ⟨p,0,none⟩))∧Dw w w' p (St.YU 10000)):=Qf3 w 10000 (by decide)
 have HO:Hid (∀W p,Dw w W p (St.YU 10000)->Calls prog 11 #[.pointer (some ⟨p,0,none⟩),.int .i64 8] W fun e w' => ∃a,e = .returned (.tuple #[.pointer (some ⟨a,0,none⟩),.int .i64 0])∧Nl w w' a p D1 (St.sA 8 (itL 8 [])) []):=fun W p h=>(h.open ht (Qgg 8 (by decide)) 8 o1).mono fun e w' z=>by
  obtain⟨a,z1,z2,_⟩:=z;exact⟨a,z1,z2⟩
 have HA:Hid (∀W a p,Nl w W a p D1 (St.sA 8 (itL 8 [])) []->Calls prog 14 #[.pointer (some ⟨a,0,none⟩),.slice (some ⟨W.heap.size,0,none⟩) 2 2] (W.alloc (.cells #[.string ⟨#[97]⟩,.string ⟨#[98]⟩] 9)) fun e w'=>e = .returned (.tuple #[.int .i64 2,.int .i64 0])∧Nl w w' a p D2 (St.sA 8 (itL 8 [ca,cb])) [ca,cb]):=fun W a p h=>by
  rw[<-xC,<-xB];exact h.append ht xD (bal (Lb _ _) _) _ W.heap.size 2 2 [ca,cb] (QkJ W ca cb (by omega) (by omega)) (by decide) (fun _ => .inr (La _)) a5 2 0 a1
 have HG:Hid (∀W a p,Nl w W a p D2 (St.sA 8 (itL 8 [ca,cb])) [ca,cb]->Calls prog 39 #[.pointer (some ⟨a,0,none⟩),.int .u64 1] W fun e w'=>e = .returned (.tuple #[.string ⟨#[98]⟩,.int .i64 0])∧Nl w w' a p D2 (St.sA 8 (itL 8 [ca,cb])) [ca,cb]):=fun W a p h=>(h.get ht xE 1 (by decide) cb 0 hg).mono fun e w' z=>⟨by rw[<-xB];exact z.1,h.next z.2⟩
 have HB:Hid (∀W a p,Nl w W a p D2 (St.sA 8 (itL 8 [ca,cb])) [ca,cb]->Calls prog 38 #[.pointer (some ⟨a,0,none⟩),.int .u64 2,.slice (some ⟨W.heap.size,0,none⟩) 1 1] (W.alloc (.cells #[.int .u64 0] 48)) fun e w' => ∃t:BA,e = .returned (.tuple #[.string t,.int .i64 0])∧t.toList.isEmpty=false∧Below w.heap.size w w'):=fun W a p h =>
  (h.batch ht (show(2:Nat)<=5000 by decide) 2 (La 2) (bal (Lb _ _) _) _ W.heap.size 0 1 1 [0] (QkK W 0) (fun _ => .inr (La _)) (by decide)).mono fun e w' z=>⟨_,z.1,Qji _ _,Qa h.below (Qa (bal (Lb _ _) _) z.2)⟩
 have HZ:Hid (∀W,Below w.heap.size w W->Calls prog 33 #[.pointer none] W fun e w'=>e = .returned (.tuple #[.int .u64 0,.int .i64 200])∧Below w.heap.size w w'):=fun W hW=>(Qii W).mono fun e w' z=>⟨z.1,Qa hW z.2⟩
 clear o1 o2 o3 o4 za zb xA a1 a2 a3 a4 a5 xD xE hg xC xB ht
 go_enter func9,ntmps9
 go_upto_region 9 with (first
  | (go_at_call 10;(with_reducible refine HN.out.mono ?_);rintro e w1 ⟨p,rfl,t1⟩)
  | (go_at_call 11;(with_reducible refine(HO.out _ _ t1).mono ?_);rintro e w2 ⟨a,rfl,t2⟩)
  | (go_at_call 14;(with_reducible refine(HA.out _ _ _ t2).mono ?_);rintro e w3 ⟨rfl,t3⟩)
  | (go_at_call 39;(with_reducible refine(HG.out _ _ _ t3).mono ?_);rintro e w4 ⟨rfl,t4⟩)
  | (go_at_call 38;(with_reducible refine(HB.out _ _ _ t4).mono ?_);rintro e w5 ⟨t,rfl,xF,t5⟩)
  | (go_at_call 33;(with_reducible refine(HZ.out _ t5).mono ?_);rintro e w6 ⟨rfl,t6⟩))
 clear HN HO HA HG HB HZ t1 t2 t3 t4 t5;go_wp2
 go_ret
 exact⟨rfl,t6⟩
section
variable {w W W1:World} {a p:Nat} {D D':St.DV} {S S':St.SV} {L L' K:LB} {v:Value}
def Jn(w W:World)(a p:Nat)(D:St.DV)(S:St.SV)(L:LB)(v:Value)(K:LB):Prop :=
 ∃U,Lg W 0 a p U D S L∧(∀b,U b->w.heap.size<=b)∧Below w.heap.size w W∧Qi W w.heap.size v K ∧ ∀g,v.ownBlock=some g -> ¬U g
theorem Jn.nl(h:Jn w W a p D S L v K):Nl w W a p D S L:=by obtain⟨U,h1,h2,h3,_⟩:=h;exact⟨U,h1,h2,h3⟩
theorem Nl.jn(h:Nl w W a p D S L):Jn w W a p D S L (.slice none 0 0) []:=by obtain⟨U,h1,h2,h3⟩:=h;exact⟨U,h1,h2,h3,YK _ _,fun g hg=>by cases hg⟩
theorem Jn.own(h:Jn w W a p D S L v K):Qi W w.heap.size v K:=by obtain⟨U,_,_,_,h4,_⟩:=h;exact h4
theorem Jn.next(h:Jn w W a p D S L v K)(hb:Below W.heap.size W W1):Jn w W1 a p D S L v K:=by
 obtain⟨U,h1,h2,h3,h4,h5⟩:=h;exact⟨U,h1.next hb,h2,Qa h3 hb,Qv h4 hb (La _),h5⟩
theorem Jn.append(h:Jn w W a p D S L v K)(ht:Tb w)(he:S.ends.length=L.length)(hb:Below W.heap.size W W1)(ao:OA)(b len cap:Nat)(xs:LB)(hr:RdS W1 ao b 0 len xs)(hlen:len<=1000000)(n3:0<len->b<w.heap.size∨W.heap.size<=b)(hR:RmA D S L xs)(n:Nat)(e0:Int)(hA:apD D S L xs=(D',S',L',n,e0)) :
  Calls prog 14 #[.pointer (some ⟨a,0,none⟩),.slice ao len cap] W1 fun e w'=>e = .returned (.tuple #[.int .i64 (n:Int),.int .i64 e0])∧Jn w w' a p D' S' L' v K:=by
 obtain⟨U,y1,y2,y3,y4,y5⟩:=h;have xA:=Qa y3 hb;refine(QaK W1 (ht.next xA) (y1.next hb) he ao b len cap xs hr (by omega) (fun h0 hu => ?_) hR n e0 hA).mono fun e w' z=>⟨z.1,?_⟩
 ·have:=y1.lt hu;have:=y2 b hu
  rcases n3 h0 with e|e <;> omega
 ·obtain⟨U',z1,z2,z3⟩:=z.2;have y6:=Qv y4 hb (La _);refine⟨U',z1,fun c hc=>(z2 c hc).elim (y2 c) (fun e=>Lu xA.size e),xA.trans (z3.below xA.size y2),St.QF y6 fun g hg=>z3.block g (UE y6 hg) (y5 g hg),fun g hg hu => ?_⟩
  rcases z2 g hu with e|e
  ·exact y5 g hg e
  ·have:=UE y6 hg;omega
theorem Jn.app(h:Jn w W a p D S L v K)(hb:Below W.heap.size W W1)(ty:Nat)(ad:Addr)(mc:Nat)(x:BA)(hr : ∀j u,[Value.string x][j]? = some u->W1.cell? (ad.add j)=some u)(hlen:K.length+1<=1048576) :
  ∃v' w',(Builtin.append_ #[22,22] ty #[v,.slice (some ad) 1 mc]).run prog W1 = .ok v' w'∧Jn w w' a p D S L v' (K++[x]):=by
 obtain⟨U,y1,y2,y3,y4,y5⟩:=h.next hb;obtain⟨v',w5,xA,o5,g5⟩:=QcR W1 ty w.heap.size v K y4 ad mc x hr hlen y3.size;refine⟨v',w5,xA,?_⟩
 have t5:St.Upo (fun b=>v.ownBlock=some b) W1 w5:=by
  rcases g5 with ⟨g,n,c,e1,e2,g3⟩|⟨g3,_⟩
  ·rw[e1];exact St.Upo.grown g3 (fun b hb=>by cases hb;rfl)
  ·exact St.Upo.grown g3 (fun b hb=>by cases hb)
 have xB : ∀b,v'.ownBlock=some b->v.ownBlock=some b∨W1.heap.size<=b:=fun b hb=>by
  rcases g5 with ⟨g',n,c,e1,e2,g3⟩|⟨_,g3⟩
  ·rw[e1];rw[e2] at hb;exact .inl hb
  ·exact .inr (g3 b hb)
 refine⟨U,y1.same fun x hx=>t5.block x (y1.lt hx) fun e=>y5 x e hx,y2,y3.trans (t5.below y3.size fun b hb=>(Ng y4 b hb).1),o5,fun g hg hu => ?_⟩
 rcases xB g hg with e|e
 ·exact y5 g e hu
 ·have:=y1.lt hu;omega
end
section
variable {k c R:Nat} {L:LB} {x:BA} {D D':St.DV}
end
theorem QiI(w:World)(ht:Tr w)(k:Int)(ao:OA)(b off cap H n:Nat)(hH:H<=40)(hn:2^H=n)(L:LB)(hr:RdS w ao b off n L)(hsz : ∀s∈L,s.size<=140737488351232)(r:BA)(hq:Hid (nd (clk k) L H 0=r)) :
  Calls prog 112 #[.int .i64 k,.slice ao n cap] w fun e w'=>e = .returned (.string r)∧Below w.heap.size w w':=by
 have xV:0<n:=by rw[<-hn];exact LJ H
 have xO:n<=1099511627776:=by rw[<-hn];exact LW (n:=2) (by decide) hH
 obtain rfl:=hr.ptr xV;have HT:Hid (Tr w∧RdS w (some ⟨b,off,none⟩) b off n L∧(∀s∈L,s.size<=140737488351232)):=⟨ht,hr,hsz⟩;have xU:(n:Int)<=1099511627776:=by omega
 have hb:=Lb w.heap.size w;have HN:Hid (2^H=n∧n<=1099511627776):=⟨hn,xO⟩;have hc:=QO k;have HC:Hid (clk k<=32):=hc;clear ht hr hsz hn hH xO hc
 go_enter func112,ntmps112;go_wp2
 go_loopg [5,6] n (fun gg v i0 wr => ∃i:Nat,i<=n∧gg=n - i∧i0 = .int .i64 (i:Int)∧Qi wr w.heap.size v (Yb (clk k) L 0 i)∧Below w.heap.size w wr)
 case atStart=>go_light;exact⟨0,Ll _,rfl,rfl,YK _ _,hb⟩
 case round =>
  clear hb;obtain⟨i,hi,rfl,rfl,ho,hb⟩:=hrel;have xN:(0:Int)<=(i:Int):=Lf _
  by_cases hlt:i<n
  ·have xB:(i:Int)<(n:Int):=by omega
   obtain⟨t1,t2,t3⟩:=HT.out;obtain⟨s,hs⟩:=Ze (L.getD i ByteArray.empty);have ci:=(t2.next hb (La _)).at hlt;rw[hs] at ci;obtain⟨x,hx⟩:=Ze (nd (clk k) L 0 i);have xQ:=Qe0 wr (t1.next hb) k s (by rw[<-hs];have:=t3 _ (Y7 (ss:=L) (k:=i) (by rw[t2.hl];exact hlt));omega) x (by rw[<-hx,nd,hs])
   have HX:Hid (Qi wr w.heap.size u5 (Yb (clk k) L 0 i)∧Below w.heap.size w wr∧i+1<=n∧x.size<=9223372036854775807∧Yb (clk k) L 0 i++[x]=Yb (clk k) L 0 (i+1)):=⟨ho,hb,hlt,by rw[<-hx,Yx HC.out];have:=HC.out;omega,by rw[<-hx];exact QcP _ _ _ _⟩
   clear ho hb hi hlt hs hx t1 t2 t3
   go_wp2_with (first
    | (go_at_call 189;with_reducible refine xQ.mono ?_;rintro e w2 ⟨rfl,xA⟩)
    | (at_builtin;refine QM _ rfl _ _ rfl w.heap.size _ (Yb (clk k) L 0 i) rfl (Yr (Qv HX.out.1 xA (La _)) _) (some ⟨w2.heap.size,0,none⟩) w2.heap.size 0 1 [x] rfl (Uy w2 x HX.out.2.2.2.1) (fun h=>by cases h) ?c1 ?c2 ?_))
   case c1=>have h1:=HX.out.2.2.1;have h2:=HN.out.2;rw[Yu];simp;omega
   case c2=>have:=(Qa HX.out.2.1 xA).size;simp;omega
   intro v2 w3 h3 hb3;have HY:Hid (Qi w3 w.heap.size v2 (Yb (clk k) L 0 (i+1))∧Below w.heap.size w w3):=⟨by rw[<-HX.out.2.2.2.2];exact h3,(bal (Qa HX.out.2.1 xA) _).trans hb3⟩
   clear h3 hb3 xA;go_wp2
   go_roundg (n - (i+1))
   case rel=>go_light;exact⟨i+1,HX.out.2.2.1,rfl,by go_num,HY.out.1,HY.out.2⟩
   case measure=>go_light;have:=HX.out.2.2.1;omega
  ·obtain rfl:i=n:=by omega
   have xB : ¬((i:Int)<(i:Int)):=by omega
   have HX:Hid (Qi wr w.heap.size u5 (Yb (clk k) L 0 i)∧Below w.heap.size w wr):=⟨ho,hb⟩;clear ho hb hi hlt;go_wp2
   go_loopg [5] H (fun gg v wx => ∃(j N:Nat),j<=H∧gg=H - j∧Hid (2^(H - j)=N∧N<=1099511627776)∧Qi wx w.heap.size v (Yb (clk k) L j N)∧Below w.heap.size w wx)
   case atStart=>go_light;exact⟨0,i,Ll _,rfl,HN.out,HX.out.1,HX.out.2⟩
   case round =>
    clear HX;obtain⟨j,N,hj,rfl,HJ,ho,hb⟩:=hrel;have xC:=HJ.out;have xD:0<N:=by rw[<-xC.1];exact LJ _
    obtain⟨g,cp,rfl,hg,xE,xM⟩:=QeO ho (by rw[Yu];exact xD)
    rw[Yu] at xE ⊢
    by_cases hjl:j<H
    ·obtain⟨M,hM⟩:=Ze (2^(H - (j+1)));have xL:N=2*M:=by rw[<-xC.1,<-hM,show H - j=H - (j+1)+1 by omega,LC];omega
     have xR:0<M:=by rw[<-hM];exact LJ _
     have yB:(1:Int)<(N:Int):=by omega
     have yC:(N:Int)<=1099511627776:=by omega
     have HX:Hid (Qi wr w.heap.size (.slice (some ⟨g,0,none⟩) (Yb (clk k) L j N).length cp) (Yb (clk k) L j N)∧Below w.heap.size w wr∧N=2*M∧2^(H - (j+1))=M∧j+1<=H∧N<=1099511627776):=⟨ho,hb,xL,hM,hjl,xC.2⟩;clear ho hb xC xD hg xE xM xL hM xR hjl hj HJ;obtain⟨W0,xS⟩ : ∃W0,W0=wr:=⟨wr,rfl⟩;subst xS;go_wp2
     go_loopg [7,8] M (fun gg v i0 wx => ∃m:Nat,m<=M∧gg=M - m∧i0 = .int .i64 (2*(m:Int))∧Qi wx W0.heap.size v (Yb (clk k) L (j+1) m)∧Below W0.heap.size W0 wx)
     case atStart=>go_light;exact⟨0,Ll _,rfl,rfl,YK _ _,Lb _ _⟩
     case round =>
      obtain⟨m,hm,rfl,rfl,ho,hb⟩:=hrel;have yD:(0:Int)<=(m:Int):=Lf _;obtain⟨y1,y2,y3,y4,y5,y6⟩:=HX.out
      by_cases hlt:m<M
      ·have xB:2*(m:Int)+1<(N:Int):=by omega
       have xF:2*(m:Int)<(N:Int):=by omega
       obtain⟨a,ha⟩:=Ze (2*m);have ea:2*(m:Int)=(a:Int):=by omega
       have k1:=(Ur (Qv y1 hb (La _)) (j:=a) (by rw[Yu];omega)).1
       have k2:=(Ur (Qv y1 hb (La _)) (j:=a+1) (by rw[Yu];omega)).1
       rw[QdO _ _ _ _ (by omega)] at k1 k2
       obtain⟨x,hx⟩:=Ze (nd (clk k) L j a);obtain⟨y,hy⟩:=Ze (nd (clk k) L j (a+1));obtain⟨z,hz⟩:=Ze (nd (clk k) L (j+1) m);rw[hx] at k1;rw[hy] at k2;have zx:x.size=clk k:=by rw[<-hx];exact Yx HC.out _ _ _
       have zy:y.size=clk k:=by rw[<-hy];exact Yx HC.out _ _ _
       have xT:=HC.out;have xJ:Hid (∀W,Below wr.heap.size wr W->Calls prog 190 #[.int .i64 k,.string x,.string y] W fun e w'=>e = .returned (.string z)∧Below W.heap.size W w'):=fun W h=>Qe1 W (HT.out.1.next (Qa (Qa y2 hb) h)) k x y (by omega) (by omega) z (by rw[<-hz,nd,ha,hx,hy])
       have HK:Hid (∀W,Below wr.heap.size wr W->W.cell? ⟨g,a,none⟩=some (.string x)∧W.cell? ⟨g,a+1,none⟩=some (.string y)):=fun W h=>by
        have l1:=Ln wr _ k1;exact⟨(h.cell (p:=⟨g,a,none⟩) l1).trans k1,(h.cell (p:=⟨g,a+1,none⟩) l1).trans k2⟩
       have xG:Hid (∀W,Below W0.heap.size W0 W->W.cell? ⟨g,a,none⟩=some (.string x)∧W.cell? ⟨g,a+1,none⟩=some (.string y)):=fun W h=>by
        have r1:=(Ur (Qv y1 h (La _)) (j:=a) (by rw[Yu];omega)).1
        have r2:=(Ur (Qv y1 h (La _)) (j:=a+1) (by rw[Yu];omega)).1
        rw[QdO _ _ _ _ (by omega)] at r1 r2
        rw[hx] at r1;rw[hy] at r2;exact⟨r1,r2⟩
       have HY:Hid (Qi wr W0.heap.size u7 (Yb (clk k) L (j+1) m)∧Below W0.heap.size W0 wr∧Yb (clk k) L (j+1) m++[z]=Yb (clk k) L (j+1) (m+1)∧z.size<=9223372036854775807∧m+1<=M∧N=2*M∧N<=1099511627776):=⟨ho,hb,by rw[<-hz];exact QcP _ _ _ _,by rw[<-hz,Yx HC.out];omega,hlt,y3,y6⟩
       have e1:IntKind.i64.wrap ((a:Int)+1)=(a:Int)+1:=by rw[Lr];omega
       have xZ:(0:Int)<=(a:Int):=by omega
       have yA:(0:Int)<=(a:Int)+1:=by omega
       have hd:Below wr.heap.size wr wr.drew:=(Lb _ _).drew;rw[ea] at xB xF ⊢;clear y1 y2 y3 y4 y5 y6 ho hb hm hlt hx hy hz zx zy xT ha
       go_upto_region 11 with (fail)
       obtain⟨i0,xN,xW,xX,xY⟩:=info_parts Tryz.infoS;have HO:Hid (∀W,Below wr.heap.size wr W->(W.alloc (.cells #[.string z] 9)).ownsRow W0.heap.size 9 1 u7 m ((Yb (clk k) L (j+1) m).map Value.string)):=fun W h=>by
        have:=Yr (Qv HY.out.1 h (La _)) (.cells #[.string z] 9);rw[Qi,Yu] at this;exact this
       have xI:Hid (m+1<=maxLen∧(m+1)*16<=140737488355328):=by have:=HY.out;refine⟨?_,?_⟩;unfold maxLen;omega;omega
       have xK:Hid (∀W,Below wr.heap.size wr W->W0.heap.size<=(W.alloc (.cells #[.string z] 9)).heap.size):=fun W h=>by have:=(Qa HY.out.2.1 h).size;simp;omega
       have kk:=HK.out wr.drew hd;have HG:Hid (∀w2 w3,Below wr.drew.heap.size wr.drew w2->(w2.alloc (.cells #[.string z] 9)).grownBy w3 u7.ownBlock->Below W0.heap.size W0 w3):=fun w2 w3 h1 h2=>(bal (Qa (Qa HY.out.2.1 hd) h1) _).grown h2 (by have:=(Qa (Qa HY.out.2.1 hd) h1).size;simp;omega) (fun q hq=>(HY.out.1.lt q hq).1)
       have xH:Hid (∀w2 w3,Below wr.drew.heap.size wr.drew w2->(w2.alloc (.cells #[.string z] 9)).grownBy w3 u7.ownBlock->w3.cell? ⟨g,a,none⟩=some (.string x)∧w3.cell? ⟨g,a+1,none⟩=some (.string y)):=fun w2 w3 h1 h2=>xG.out w3 (HG.out w2 w3 h1 h2)
       go_region_held3 (fun w'=>w'.cell? ⟨g,a,none⟩=some (.string x)∧w'.cell? ⟨g,a+1,none⟩=some (.string y)) (first|assumption|(exact xH.out _ _ xA hgrow)|(exact HK.out _ (Qa hd xA))|(exact HK.out _ (bal (Qa hd xA) _))) (first
        | (go_at_call 190;with_reducible refine(xJ.out _ hd).mono ?_;rintro e w2 ⟨rfl,xA⟩)
        | (refine step_append_lies _ (by rfl) _ _ _ (by rfl) W0.heap.size 9 i0 _ 1 16 underlying22 xN xW xX xY rfl (by omega) u7 m ((Yb (clk k) L (j+1) m).map Value.string) (by rfl) (HO.out _ (Qa hd xA)) ⟨w2.heap.size,0,none⟩ 1 1 [.string z] (by rfl) (by rfl) (World.news_of_block (cs:=#[.string z]) (t:=9) (fr:=(0,0)) (LH w2 _)) (by simp[Value.oneCell']) (by omega) xI.out.1 xI.out.2 (xK.out _ (Qa hd xA)) (w2.heap.size+1) (by simp) ?_;intro gg cap_1 w3 hown3 hgrow hat hlt3))
       have HZ:Hid (Qi w3 W0.heap.size (.slice (some ⟨gg,0,none⟩) (m+1) cap_1) (Yb (clk k) L (j+1) (m+1))∧Below W0.heap.size W0 w3):=⟨by
        rw[Qi,Yu,<-HY.out.2.2.1,L5];exact hown3,HG.out _ _ xA hgrow⟩
       clear hown3 hgrow hat hlt3 HG xH HK xG xJ HO xK kk;have xP:=Qd ea;clear ea;go_wp2
       go_roundg (M - (m+1))
       case rel=>go_light;exact⟨m+1,HY.out.2.2.2.2.1,rfl,by have:=xP.out;rw[show 2*((m+1:Nat):Int)=(a:Int)+2 by omega],HZ.out.1,HZ.out.2⟩
       case measure=>go_light;have:=HY.out.2.2.2.2.1;omega
      ·obtain rfl:m=M:=by omega
       obtain⟨a,ha⟩:=Ze (2*m);have ea:2*(m:Int)=(a:Int):=by omega
       have xB : ¬((a:Int)+1<(N:Int)):=by omega
       have e1:IntKind.i64.wrap ((a:Int)+1)=(a:Int)+1:=by rw[Lr];omega
       rw[ea];have HY:Hid (Qi wr w.heap.size u7 (Yb (clk k) L (j+1) m)∧Below w.heap.size w wr∧2^(H - (j+1))=m∧j+1<=H∧m<=1099511627776):=⟨World.ownsRow.mono ho y2.size,Qa y2 hb,y4,y5,by omega⟩
       clear y1 y2 y3 y4 y5 y6 ho hb hm hlt HX ha ea;go_wp2
       go_roundg (H - (j+1))
       case rel=>go_light;obtain⟨k1,k2,k3,k4,k5⟩:=HY.out;exact⟨j+1,m,k4,rfl,⟨k3,k5⟩,k1,k2⟩
       case measure=>go_light;have:=HY.out.2.2.2.1;omega
    ·obtain rfl:j=H:=by omega
     obtain⟨n1,n2⟩:=xC;rw[Il,Ik] at n1;subst n1;have k1:=(Ur ho (j:=0) (by rw[Yu];decide)).1
     rw[QdO _ _ _ _ (by decide),hq.out] at k1
     have h1 : ¬((1:Int)<1):=by decide
     have HB:Hid (Below w.heap.size w wr):=hb;clear ho hb xE xM hg HJ n2 xD hj hjl;go_wp2
     go_ret
     exact⟨rfl,HB.out⟩
theorem RdS.cut{w:World}{b off len:Nat}{ss:LB}(h:RdS w (some ⟨b,off,none⟩) b off len ss)(i n:Nat)(hn:i+n<=len):RdS w (some ⟨b,off+i,none⟩) b (off+i) n ((ss.drop i).take n):=by
 refine⟨by rw[Lz,Nb,h.hl];omega,fun _=>rfl,fun j v hv => ?_,fun s hs=>h.sz s (NY (Ny hs))⟩
 rw[NO,LQ] at hv
 split at hv
 ·rw[IJ,Nr] at hv;rw[Ni];exact h.rng (i+j) v hv
 ·cases hv
def gen{α:Type}(f:Nat->α)(n:Nat):Nat->List α
 | 0=>[]
 | h+1=>(if n / 2^h % 2=1 then [f h] else [])++gen f n h
theorem QgX(c:Nat)(L:LB) : ∀h,gen (fun s=>nd c L s (L.length / 2^s - 1)) L.length h=pks c L h
 | 0=>rfl
 | h+1=>by rw[gen,pks,QgX c L h]
theorem Qdh{α β:Type}(g:α->β)(f:Nat->α)(n:Nat) : ∀h,(gen f n h).map g=gen (fun s=>g (f s)) n h
 | 0=>rfl
 | h+1=>by
  rw[gen,gen,L5,Qdh g f n h]
  by_cases e:n / 2^h % 2=1
  ·rw[Lk e,Lk e];rfl
  ·rw[Le e,Le e];rfl
theorem Qbr{α:Type}{f:Nat->α}{n h:Nat}(e:n / 2^h % 2≠1):gen f n (h+1)=gen f n h:=by rw[gen,Le e];rfl
theorem Qdj{α:Type}{f:Nat->α}{n h:Nat}(e:n / 2^h % 2=1):gen f n (h+1)=f h::gen f n h:=by rw[gen,Lk e];rfl
theorem Qbs{α:Type}{f:Nat->α}{n s:Nat} : ∀d,n % 2^(s+d)<2^s->gen f n (s+d)=gen f n s
 | 0,_=>rfl
 | d+1,h=>by
  have hs:2^s<=2^(s+d):=LW (by decide) (by omega)
  have h2:n % 2^(s+(d+1)) / 2^(s+d) % 2≠1:=QhH (by omega)
  rw[QgL (by omega)] at h2
  rw[show s+(d+1)=s+d+1 by omega,Qbr h2]
  refine Qbs d ?_
  have:n % 2^(s+d)=n % 2^(s+(d+1)) % 2^(s+d):=by
   rw[show s+(d+1)=(s+d)+1 by omega,LC,Nat.mod_mul_right_mod]
  rw[this,Nn (Lx h hs)];exact h
theorem QjT{α:Type}{f:Nat->α}{n g s:Nat}(h1:2^s<=n % 2^g)(h2:n % 2^g<2^(s+1)):gen f n g=f s::gen f n s:=by
 obtain⟨xA,e2,e1,_⟩:=Qhx h1 h2;obtain⟨d,rfl⟩ : ∃d,g=s+1+d:=⟨g - s - 1,by omega⟩
 rw[Qbs d (by rw[e1,<-e1];exact h2),Qdj e2]
theorem QjU{α:Type}{f:Nat->α}{n g:Nat}(h:n % 2^g=0):gen f n g=[]:=by
 have:=Qbs (f:=f) (n:=n) (s:=0) g (by rw[Lm,h];decide)
 rw[Lm] at this;rw[this,gen]
theorem Qdg{α:Type}(f:Nat->α)(n:Nat) : ∀h,(gen f n h).length<=h
 | 0=>La _
 | h+1=>by
  have:=Qdg f n h
  by_cases e:n / 2^h % 2=1
  ·rw[Qdj e,LE];omega
  ·rw[Qbr e];omega
theorem Qdi{n:Nat} : ∀h s,s∈gen id n h->s<h∧n / 2^s % 2=1
 | 0,s,hs=>by cases hs
 | h+1,s,hs=>by
  by_cases e:n / 2^h % 2=1
  ·rw[Qdj e] at hs
   rcases List.mem_cons.1 hs with rfl|hs
   ·exact⟨Nat.lt_succ_self _,e⟩
   ·have:=Qdi h s hs;exact⟨by omega,this.2⟩
  ·rw[Qbr e] at hs;have:=Qdi h s hs;exact⟨by omega,this.2⟩
def cP:List (Nat×Nat)->List Value
 | []=>[]
 | p::r => .int .i64 (p.1:Int) :: .int .i64 (p.2:Int)::cP r
theorem QnR(l m:List (Nat×Nat)):cP (l++m)=cP l++cP m:=by
 induction l with
 | nil=>rfl
 | cons b r ih=>simp[cP,ih]
theorem QnS(l:List (Nat×Nat))(j:Nat)(hj:j<l.length):(cP l)[j*2]? = some (.int .i64 ((l.getD j (0,0)).1:Int))∧(cP l)[j*2+1]? = some (.int .i64 ((l.getD j (0,0)).2:Int)):=by
 induction l generalizing j with
 | nil=>simp at hj
 | cons b r ih =>
  cases j with
  | zero=>exact⟨rfl,rfl⟩
  | succ j =>
   have:=ih j (by simpa using hj)
   rw[show(j+1)*2=j*2+1+1 by omega]
   simpa [cP] using this
theorem Tryz.infoP:(prog.info? 196).map (fun i=>(i.zero,i.size,i.bytes))=some (some (.agg #[.int .i64 0,.int .i64 0]),2,16):=by kernel_rfl
def OwnP(w:World)(B:Nat)(v:Value)(l:List (Nat×Nat)):Prop:=w.ownsRow B 196 2 v l.length (cP l)
theorem QcG{w W:World}{B:Nat}{v:Value}{l:List (Nat×Nat)}(h:OwnP w B v l)(hb:Below w.heap.size w W):OwnP W B v l:=by
 obtain⟨h1,h2⟩:=h;refine⟨h1,?_⟩
 rcases h2 with h2|⟨g,cap,cur,rfl,hg,hh,r⟩
 ·exact .inl h2
 ·exact .inr ⟨g,cap,cur,rfl,hg,by rw[hb.block g (Array.getElem?_eq_some_iff.1 hh).1];exact hh,r⟩
theorem Qkw(w:World)(B:Nat):OwnP w B (.slice none 0 0) []:=⟨rfl,.inl ⟨rfl,rfl⟩⟩
theorem Qip{w:World}{B g n cap:Nat}{l:List (Nat×Nat)}(h:OwnP w B (.slice (some ⟨g,0,none⟩) n cap) l){j:Nat}(hj:j<l.length):w.cell? ⟨g,j*2,none⟩=some (.int .i64 ((l.getD j (0,0)).1:Int))∧w.cell? ⟨g,j*2+1,none⟩=some (.int .i64 ((l.getD j (0,0)).2:Int)):=by
 obtain⟨k1,k2⟩:=QnS l j hj;have h1:=Ip h (g:=g) rfl _ _ k1;have h2:=Ip h (g:=g) rfl _ _ k2;rw[Addr.add_mid,Lm] at h1 h2;exact⟨h1,h2⟩
theorem QaP(w:World){ops:Array Oper}{rest:List Oper}{o:Oper}{a:Act}{Q:Exit->Act->World->Prop}
  (hg:o.guard=none) (s x:Operand) (hop:o.op=Op.call { callee:=Callee.builtin Builtin.append,args:=#[s,x],argTypes:=#[194,194] })
  (B:Nat) (v:Value) (L:List (Nat×Nat)) (w0:World) (p q:Nat) (hw:w=w0.alloc (.cells #[.int .i64 (p:Int),.int .i64 (q:Int)] 196)) (hs:a.eval s=v) (hown:OwnP w B v L) (hx:a.eval x = .slice (some ⟨w0.heap.size,0,none⟩) 1 1)
  (hlen:L.length+1<=1048576) (hB:B<=w.heap.size)
  (hK : ∀v' w',OwnP w' B v' (L++[(p,q)])->Below B w w'->wpList prog ops Q rest (a.put o.dst v') w'):wpList prog ops Q (o::rest) a w:=by
 obtain⟨i0,hi,xC,xD,xE⟩:=info_parts Tryz.infoP;have xB : ∀k,v.ownBlock=some k->B<=k:=by
  obtain⟨_,h2⟩:=hown
  rcases h2 with ⟨rfl,_⟩|⟨g,cp,cur,rfl,hg,_⟩
  ·intro k hk;cases hk
  ·intro k hk;cases hk;exact hg
 have xA : ∀j u,([.int .i64 (p:Int),.int .i64 (q:Int)]:List Value)[j]? = some u->w.cell? ((⟨w0.heap.size,0,none⟩:Addr).add j)=some u:=by
  subst hw;exact World.news_of_block (cs:=#[.int .i64 (p:Int),.int .i64 (q:Int)]) (t:=196) (fr:=(0,0)) (LH w0 _)
 refine wpList_append_own w hg s x _ hop B 196 i0 (.agg #[.int .i64 0,.int .i64 0]) 2 16 underlying194 hi xC xD xE rfl (by decide) _ _ _ hs hown ⟨w0.heap.size,0,none⟩ 1 1 [.int .i64 (p:Int),.int .i64 (q:Int)] hx rfl xA (by intro u hu;simp at hu;rcases hu with rfl|rfl <;> rfl) (by unfold maxLen;omega) (by omega) hB ?_
 intro v' w' h1 h2 _;refine hK v' w' ?_ ((Lb _ _).grown h2 hB xB)
 rw[OwnP,Lc,QnR];exact h1
def mtP(n s:Nat):Nat×Nat:=((n / 2^s - 1)*2^s,2^s)
theorem UD(w:World)(n:Nat)(hn:n<=1099511627776)(P:List (Nat×Nat))(hP:Hid (gen (mtP n) n 41=P)) :
  Calls prog 111 #[.int .i64 (n:Int)] w fun e w' => ∃v,e = .returned v∧OwnP w' w.heap.size v P∧Below w.heap.size w w':=by
 have hb:=Lb w.heap.size w;have HS:Hid ([]++gen (mtP n) n 41=P):=by rw[Nd];exact hP
 have xM:Hid (P.length<=41):=by show _<=_;rw[<-hP.out];exact Qdg _ _ _
 have HN:Hid (n<=1099511627776):=hn;have xT:(n:Int)<=1099511627776:=by omega
 clear hn hP
 go_enter func111,ntmps111;go_wp2
 go_loopg [3,4] n (fun gg v a wr => ∃(g t:Nat) (A:List (Nat×Nat)),t<=n∧gg=n - t∧a = .int .i64 (t:Int)∧Hid (t+n % 2^g=n∧A++gen (mtP n) n g=P)∧OwnP wr w.heap.size v A∧Below w.heap.size w wr)
 case atStart=>go_light;exact⟨41,0,[],Ll _,rfl,rfl,⟨by have:=HN.out;omega,HS.out⟩,Qkw _ _,hb⟩
 case round =>
  clear hb HS;obtain⟨g,t,A,xS,rfl,rfl,HE,ho,hb⟩:=hrel;have xU:(0:Int)<=(t:Int):=Lf _
  by_cases hlt:t<n
  ·have xI:(t:Int)<(n:Int):=by omega
   have HX:Hid (OwnP wr w.heap.size u3 A∧Below w.heap.size w wr∧t<n):=⟨ho,hb,hlt⟩;obtain⟨m,hm⟩:=Ze (n - t);have em:IntKind.i64.wrap ((n:Int) - (t:Int))=(m:Int):=by rw[Lr];omega
   have xJ:Hid (t+m=n):=by show _=_;omega
   clear ho hb xS hlt hm;go_wp2
   go_loopg [5] 64 (fun gg zv wx => ∃(h z:Nat),h<=64∧gg=64 - h∧zv = .int .i64 (z:Int)∧Hid (2^h=z∧z<=m)∧wr=wx)
   case atStart=>go_light;exact⟨0,1,by omega,rfl,rfl,⟨rfl,by have:=HX.out.2.2;have:=xJ.out;omega⟩,rfl⟩
   case round =>
    obtain⟨h,z,xD,rfl,rfl,HH,rfl⟩:=hrel;have hz:=HH.out;have xK:=xJ.out;have xL:=HN.out;have xA:h<=40:=by
     apply N6
     intro h9;have:=LW (n:=2) (by decide) (show 41<=h from h9)
     omega
    obtain⟨q,hq⟩:=Ze (2*z);have e1:IntKind.i64.wrap (2*(z:Int))=(q:Int):=by rw[Lr];omega
    by_cases hgo:q<=m
    ·have xH:(q:Int)<=(m:Int):=by omega
     have HY:Hid (2^(h+1)=q∧q<=m∧h<=40):=⟨by rw[LC,hz.1];omega,hgo,xA⟩
     clear HH hq hgo xD xA hz xK xL;go_wp2
     go_roundg (64 - (h+1))
     case rel=>go_light;exact⟨h+1,q,by have:=HY.out.2.2;omega,rfl,rfl,⟨HY.out.1,HY.out.2.1⟩,rfl⟩
     case measure=>go_light;have:=HY.out.2.2;omega
    ·have xH : ¬((q:Int)<=(m:Int)):=by omega
     have hE:=HE.out;have xF:2^h<=n % 2^g:=by omega
     have xG:n % 2^g<2^(h+1):=by rw[LC];omega
     obtain⟨xR,xC,xP,xQ⟩:=Qhx xF xG;obtain⟨xN,xO⟩:=QeF xC;have xB:(n / 2^h - 1)*2^h=t:=by omega
     have e7:IntKind.i64.wrap ((t:Int)+(z:Int))=(t:Int)+(z:Int):=by rw[Lr];omega
     have xE:Hid (t+z<=n∧t+z+n % 2^h=n∧A++[(t,z)]++gen (mtP n) n h=P∧1<=z):=by
      refine⟨by omega,by omega,?_,?_⟩
      ·have h3:=QjT (f:=mtP n) xF xG;rw[mtP,xB,hz.1] at h3;rw[<-hE.2,h3];simp
      ·rw[<-hz.1];exact LJ h
     clear hgo xF xG xR xC xP xQ xN xO xB hE HE HH hz xK xL xA xD hq
     go_wp2_with (at_builtin;refine QaP _ rfl _ _ rfl w.heap.size _ A wr t z rfl rfl (QcG HX.out.1 (bal (Lb _ _) _)) rfl ?c1 ?c2 ?_)
     case c1=>have h1:=Lw List.length xE.out.2.2.1;have h2:=xM.out;simp at h1;omega
     case c2=>have:=HX.out.2.1.size;simp;omega
     intro v2 w6 h6 hb6;have HY:Hid (OwnP w6 w.heap.size v2 (A++[(t,z)])∧Below w.heap.size w w6):=⟨h6,(bal HX.out.2.1 _).trans hb6⟩;clear h6 hb6;go_wp2
     go_roundg (n - (t+z))
     case rel=>go_light;obtain⟨k1,k2,k3,k4⟩:=xE.out;exact⟨h,t+z,A++[(t,z)],k1,rfl,by go_num,⟨k2,k3⟩,HY.out.1,HY.out.2⟩
     case measure=>go_light;obtain⟨k1,k2,k3,k4⟩:=xE.out;have:=HX.out.2.2;omega
  ·obtain rfl:t=n:=by omega
   have xI : ¬((t:Int)<(t:Int)):=by omega
   have HA:Hid (A=P):=by
    obtain⟨k1,k2⟩:=HE.out;rw[QjU (by omega),LS] at k2
    exact k2
   clear HE;go_wp2
   go_ret
   exact⟨_,rfl,by rw[<-HA.out];exact ho,hb⟩
end Go.Proofs.YtoblgjledefdbaaGreatDoor
