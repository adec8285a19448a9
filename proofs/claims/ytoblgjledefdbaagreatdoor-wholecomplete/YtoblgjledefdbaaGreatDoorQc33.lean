/- Own work. -/
import Derived.Test.YtoblgjledefdbaaGreatDoorCards
import Derived.Test.YtoblgjledefdbaaGreatDoorTie
import Derived.Deep.DeepHandedRow
import Derived.Lib.LaidTab
import Derived.Stop.LaidErr
import Derived.Test.YtoblgjledefdbaaGreatDoorQc32
set_option maxRecDepth 100000
set_option maxHeartbeats 8000000
namespace Go.Proofs.YtoblgjledefdbaaGreatDoor
open Go.RowKit
attribute [local go_sem ↓] Go.wp_at_zero Go.wp_at_succ
open Go.Proofs.Tryz
section
attribute [local go_sem ↓] St.JJ
def selI(xs:LB)(i:Nat):LB:=(xs.take i).filter fun s=>decide (s.size<=3000)
theorem Qk8{xs:LB}{i:Nat}(hi:i<xs.length)(hs:(xs.getD i ByteArray.empty).size<=3000):selI xs (i+1)=selI xs i++[xs.getD i ByteArray.empty]:=by
 rw[Lc,Ll hi] at hs ⊢;unfold selI;rw[L4 hi,List.filter_append]
 congr 1
 simpa using hs
theorem Qnj{xs:LB}{i:Nat}(hi:i<xs.length)(hs:¬(xs.getD i ByteArray.empty).size<=3000):selI xs (i+1)=selI xs i:=by
 rw[Lc,Ll hi] at hs;unfold selI;rw[L4 hi,List.filter_append];have:List.filter (fun s=>decide (s.size<=3000)) [xs[i]]=[]:=by simpa using hs
 rw[this,Nd]
def LsT(w W:World)(a p:Nat)(v:Value)(k i:Nat)(K:LB)(D:St.DV):Prop :=
 Jl w W a p D (St.sA k (itL k K)) K v K∧K.length<=i∧(∀s∈K,s.size<=3000)∧St.Qt 134217728 D∧St.Ext k (itL k K) D.L∧D.acts<=6+6*i∧1<=k∧k<=32
theorem Qj6{k:Nat}{K:LB}(k1:1<=k)(k2:k<=32)(h1:K.length<=101)(h2:∀s∈K,s.size<=3000):Fit k 134217728 3000 K :=
 ⟨k1,k2,by decide,by omega,h2,by omega,by decide⟩
theorem Qmz{K:LB}{x:BA}{c:Nat}(h2:∀s∈K,s.size<=c)(hx:x.size<=c):∀s∈K++[x],s.size<=c:=fun s hs=>by
 rcases List.mem_append.1 hs with e|e
 ·exact h2 s e
 ·rw[I9] at e;subst e;exact hx
section
variable {w W W1:World} {a p i k:Nat} {v:Value} {K:LB} {D:St.DV}
theorem LsT.own(h:LsT w W a p v k i K D):Qg W w.heap.size v K:=h.1.own
theorem LsT.below(h:LsT w W a p v k i K D):Below w.heap.size w W:=h.1.nl.below
theorem LsT.keep(h:LsT w W a p v k i K D):LsT w W a p v k (i+1) K D:=by
 obtain⟨h1,h2,h3,h4,h5,h6,h7⟩:=h;exact⟨h1,by omega,h3,h4,h5,by omega,h7⟩
theorem LsT.one(h:LsT w W a p v k i K D)(ht:Tb w)(hi:i<100)(x:BA)(hx:x.size<=3000) :
  ∃D',Calls prog 14 #[Pq a,.slice (Zp W.heap.size) 1 1] (W.alloc (.cells #[.string x] 9)) (fun e w'=>e= .returned (.tuple #[.int .i64 1,.int .i64 0])∧Jl w w' a p D' (St.sA k (itL k (K++[x]))) (K++[x]) v K) ∧
   ∀W' v',Jl w W' a p D' (St.sA k (itL k (K++[x]))) (K++[x]) v' (K++[x])->LsT w W' a p v' k (i+1) (K++[x]) D':=by
 obtain⟨h1,h2,h3,h4,h5,h6,k1,k2⟩:=h;have hs:=Qmz h3 hx;have hl:(K++[x]).length=K.length+1:=by simp
 have hf:=Qj6 (K:=K++[x]) k1 k2 (by omega) hs
 obtain⟨D',a1,a2,a3,a4,a5⟩:=QnP [x] K D hf h4 h5 (by simp only[List.length_cons,List.length_nil];omega)
 refine⟨D',?_,fun W' v' hJ=>⟨hJ,by omega,hs,a2,a3,by rw[a4];simp only[List.length_cons,List.length_nil];omega,k1,k2⟩⟩
 exact h1.append ht (Qk6 hf.init) (bal (Lb _ _) _) _ W.heap.size 1 1 [x] (Uf W x (by omega)) (by decide) (fun _=> .inr (La _)) a5 1 0 a1
end
def StoQ(w:World)(k:Nat)(xs:LB)(e:Ending)(w':World):Prop :=
 ∃p a v i D,e= .returned (.tuple #[Pq p,Pq a,v])∧i<=100∧i<=xs.length∧(i=100∨i=xs.length)∧LsT w w' a p v k i (selI xs i) D
theorem QbL(w:World)(ht:Tb w)(k:Nat)(k1:1<=k)(k2:k<=32)(ao:OA)(b off len cap:Nat)(xs:LB)(hr:RdS w ao b off len xs)(hmx:len<=9223372036854775807) :
  Calls prog 37 #[.int .i64 k,.slice ao len cap] w (StoQ w k xs):=by
 obtain⟨D0,hD0⟩:∃D,St.nD 134217728 3=D:=⟨_,rfl⟩;have hxl:=hr.hl;obtain⟨r,hrl⟩:∃r,min len 100=r:=⟨_,rfl⟩;have hr100:r<=100∧r<=len∧(r=100∨r=len):=by omega
 have HN:Hid (Calls prog 10 #[.int .i64 134217728] w fun e w'=> ∃p,e= .returned (Pq p)∧Dw w w' p (St.Jb 134217728)):=QoR w 134217728 (by decide)
 have HO:Hid (∀W p,Dw w W p (St.Jb 134217728)->Calls prog 11 #[Pq p,.int .i64 k] W fun e w'=> ∃a,e= .returned (.tuple #[Pq a,.int .i64 0])∧LsT w w' a p (.slice none 0 0) k 0 [] D0):=fun W p h=>(h.open ht (by decide) k k1 k2).mono fun e w' z=>by
  obtain⟨a,z1,z2⟩:=z;rw[hD0] at z2;obtain⟨q1,q2⟩:=St.QoM k 134217728 3;rw[hD0] at q1 q2;exact⟨a,z1,z2.jn,La _,(fun s hs=>by cases hs),q2,q1,by rw[<-hD0];show 3<=_;omega,k1,k2⟩
 have HR:=Qd hr;have HTb:=Qd ht;have HXl:=Qd hxl;have hptr:=hr.ptr;clear hD0 ht hr hrl k1 k2 hxl
 go_enter func37,ntmps37
 go_upto_region 7 with (first
  | (go_at_call 10;(with_reducible refine HN.out.mono ?_);rintro e w1 ⟨p,rfl,t1⟩)
  | (go_at_call 11;(with_reducible refine(HO.out _ _ t1).mono ?_);rintro e w2 ⟨a,rfl,t2⟩))
 have HS3:=Qd t2;clear HN HO t1 t2
 go_loopg [10,11] r (fun g v x wr=> ∃(i:Nat) (D:St.DV),i<=r∧g=r-i∧x= .int .i64 i∧Hid (LsT w wr a p v k i (selI xs i) D))
 case atStart=>go_light;exact⟨0,D0,Ln _,rfl,rfl,HS3⟩
 case round=>
  clear HS3;obtain⟨i,D,hi,rfl,rfl,HS⟩:=hrel;obtain⟨va,vn,vc,rfl⟩:=YR HS.out.own
  by_cases hlt:i<r
  ·have hz:(i:Int)<(len:Int):=by omega
   have hz1:(i:Int)<100:=by omega
   obtain rfl:=hptr (by omega)
   have hB:=HS.out.below;have hil:i<xs.length:=by have:=HXl.out;omega
   obtain⟨s,hs⟩:∃s,xs.getD i ByteArray.empty=s:=⟨_,rfl⟩;have HC:Hid (∀W,Below w.heap.size w W->W.cell? ⟨b,off+i,none⟩=some (.string s)):=fun W hW=>by
    have:=(HR.out.next hW (La _)).at (k:=i) (by omega)
    rw[hs] at this;exact this
   have ew:IntKind.i64.wrap ((i:Int)+1)=(i:Int)+1:=by rw[Lz];omega
   have c0:=HC.out wr hB
   by_cases hg:s.size<=3000
   ·have hg1:¬(3000:Int)<(s.size:Int):=by omega
    have hsel:selI xs (i+1)=selI xs i++[s]:=by rw[Qk8 hil (by rw[hs];exact hg),hs]
    have HSel:=Qd hsel;obtain⟨D',hap,hnx⟩:=HS.out.one HTb.out (by omega) s hg
    have hkl:=HS.out.2.1;have HAp:=Qd hap;have HNx:=Qd hnx;generalize selI xs i=K at *;have HAp2:Hid (∀W1,Jl w W1 a p D' (St.sA k (itL k (K++[s]))) (K++[s]) (.slice va vn vc) K->W1.cell? ⟨b,off+i,none⟩=some (.string s) ∧ ∃ao n cap w5,(Builtin.append_ #[22,22] 22 #[.slice va vn vc,.slice (Zp W1.heap.size) 1 1]).run prog (W1.alloc (.cells #[.string s] 9))= .ok (.slice ao n cap) w5∧LsT w w5 a p (.slice ao n cap) k (i+1) (K++[s]) D'):=fun W1 hJ=>by
     refine⟨HC.out W1 hJ.nl.below,?_⟩
     obtain⟨v',w5,q1,q2⟩:=hJ.app (bal (Lb _ _) (.cells #[.string s] 9)) 22 ⟨W1.heap.size,0,none⟩ 1 s (St.Qc8 W1 _ _) (by omega)
     obtain⟨ao,n,cap,rfl⟩:=YR q2.own;exact⟨ao,n,cap,w5,q1,HNx.out w5 _ q2⟩
    clear hap hnx hB hg HC HNx HS hs hsel hkl hil
    go_wp2_with (go_at_call 14;(with_reducible refine HAp.out.mono ?_);rintro e w4 ⟨rfl,t4⟩;obtain⟨c4,ea,en,ec,w5,h5,t5⟩:=HAp2.out w4 t4;have ha:=St.QaI h5;have T5:=Qd t5;clear HAp HAp2 c0 t4 t5 h5)
    go_roundg (r-(i+1))
    case rel=>go_light;exact⟨i+1,D',by omega,rfl,by go_num,by rw[HSel.out];exact T5⟩
    case measure=>go_light;omega
   ·have hg1:(3000:Int)<(s.size:Int):=by omega
    have HNx:Hid (LsT w wr a p (.slice va vn vc) k (i+1) (selI xs (i+1)) D):=by
     rw[Qnj hil (by rw[hs];exact hg)]
     exact HS.out.keep
    clear hB hg HC HS hs hil;go_wp2
    go_roundg (r-(i+1))
    case rel=>go_light;exact⟨i+1,D,by omega,rfl,by go_num,HNx⟩
    case measure=>go_light;omega
  ·obtain rfl:i=r:=by omega
   have hex:¬((i:Int)<(len:Int))∨(((i:Int)<(len:Int)) ∧ ¬(i:Int)<100):=by omega
   have HE:Hid (StoQ w k xs (.returned (.tuple #[Pq p,Pq a,.slice va vn vc])) wr):=⟨p,a,_,i,D,rfl,by omega,by rw[HXl.out];omega,by rw[HXl.out];omega,HS.out⟩
   clear HS hlt hi hptr HR
   rcases hex with hz|⟨hz,hz1⟩
   all_goals
    go_wp2
    go_ret3
    exact HE.out
theorem QnD{w9 w10:World}{x y:Value}{T:Nat}(v:Below (w9.alloc (.cells #[x,y] T)).heap.size (w9.alloc (.cells #[x,y] T)) w10):(w10.alloc (.cells #[x,y] T)).cell? ⟨w9.heap.size,0,none⟩=some x∧(w10.alloc (.cells #[x,y] T)).cell? ⟨w9.heap.size,1,none⟩=some y:=by
 have k0:=(Qa v (bal (Lb _ _) (.cells #[x,y] T))).block w9.heap.size (by simp)
 rw[Lt] at k0;exact⟨by rw[cell_of_row _ _ 0 _ _ (0,0) k0];rfl,by rw[cell_of_row _ _ 1 _ _ (0,0) k0];rfl⟩
theorem Qhc(w:World)(ht:Tb w)(hT:Tr w):Calls prog 31 #[] w fun e w'=>e= .returned (.bool true)∧Below w.heap.size w w':=by
 obtain⟨W0,hW0⟩:∃W,w.alloc (.cells #[.string ⟨#[97]⟩] 9)=W:=⟨_,rfl⟩;have hb0:Below w.heap.size w W0:=by rw[<-hW0];exact bal (Lb _ _) _
 have hr0:RdS W0 (Zp w.heap.size) w.heap.size 0 1 [⟨#[97]⟩]:=by rw[<-hW0];exact Uf w _ (by decide)
 obtain⟨rt,hrt⟩:∃r,rtD 8 [⟨#[97]⟩] 1=r:=⟨_,rfl⟩;have HS:Hid (Calls prog 37 #[.int .i64 8,.slice (Zp w.heap.size) 1 1] W0 fun e w'=> ∃p a va vc,e= .returned (.tuple #[Pq p,Pq a,.slice va 1 vc])∧Hid (Below w.heap.size w w')∧(Calls prog 20 #[Pq a,.int .u64 1] w' fun e w''=>e= .returned (.tuple #[.agg #[.int .u64 1,.string rt],.int .i64 0])∧Below w'.heap.size w' w'') ∧ ∀W,Below w'.heap.size w' W->Calls prog 21 #[.int .i64 8,.slice va 1 vc,.int .u64 1] W fun e w''=>e= .returned (.tuple #[.agg #[.int .u64 1,.string rt],.int .i64 0])∧Below W.heap.size W w''):=by
  refine(QbL W0 (ht.next hb0) 8 (by decide) (by decide) _ _ _ _ 1 _ hr0 (by decide)).mono fun e w' z=> ?_
  obtain⟨p,a,v,i,D,z1,z2,z3,z4,z5⟩:=z;obtain rfl:i=1:=by
   have h1:([⟨#[97]⟩]:LB).length=1:=rfl;rw[h1] at z3 z4;omega
  have hK:selI [⟨#[97]⟩] 1=[⟨#[97]⟩]:=rfl;rw[hK] at z5;obtain⟨ao,bb,cc,q1,q2,q3,_⟩:=QH z5.own (fun s hs=>by rw[I9] at hs;subst hs;decide)
  subst q1;have hbW:=Qa hb0 z5.below;refine⟨p,a,ao,cc,z1,hbW,?_,fun W hW=> ?_⟩
  ·exact z5.1.nl.root (ht.next hb0) 1 (La _) rt hrt
  ·exact QeQ W (hT.next (Qa hbW hW)) 8 (by decide) (by decide) ao bb 0 _ cc _ (q2.next hW (La _)) (fun s hs=>by rw[I9] at hs;subst hs;decide) (by decide) q3 1 (La _) rt (Qd hrt)
 have HW0:=Qd hW0;have hxx:(rt.toList == rt.toList)=true:=by simp
 clear hrt ht hT hb0 hr0 hW0
 go_enter func31,ntmps31
 go_upto_region 1 with (fail)
 go_upto_region 5 with (first
  | ((try rw[HW0.out]);go_at_call 37;(with_reducible refine HS.out.mono ?_);rintro e w1 ⟨p,a,va,vc,rfl,HB1,hRo,hRf⟩;have HRo:=Qd hRo;have HRf:=Qd hRf;clear hRo hRf)
  | (go_at_call 20;(with_reducible refine HRo.out.mono ?_);rintro e w2 ⟨rfl,u2⟩))
 go_upto_region 6 with (go_at_call 21;(with_reducible refine(HRf.out _ (bal u2 _)).mono ?_);rintro e w3 ⟨rfl,u3⟩)
 obtain⟨k1,k2⟩:=QnD u3;have HB:=Qd (Qa HB1.out (bal (Qa (bal u2 (.cells #[.int .u64 1,.string rt] 50)) u3) (.cells #[.int .u64 1,.string rt] 50)));clear u2 u3 HB1 HRo HRf HS;go_wp2
 go_ret
 exact⟨rfl,HB.out⟩
end
abbrev An(w2:World)(f:Nat)(args:List Value)(v:Value):Prop := ∀W,Below w2.heap.size w2 W->Calls prog f args.toArray W fun e w'=>e= .returned v∧Below W.heap.size W w'
theorem Qku{w:World}{B:Nat}{v:Value}{l:List (Nat×BA)}(h:Ok w B v l):∃a n c,v= .slice a n c:=by
 obtain⟨a,c,h⟩:=St.Ql h;exact⟨a,_,c,h⟩
theorem Qil(w:World)(ty B:Nat)(v:Value)(L:List (Nat×BA))(hown:Ok w B v L)(i:Nat)(x:BA)(hlen:L.length+1<=1099511627776)(hB:B<=w.heap.size) :
  ∃v' w',(Builtin.append_ #[90,90] ty #[v,.slice (Zp w.heap.size) 1 1]).run prog (w.alloc (.cells #[.int .u64 i,.string x] 93))= .ok v' w'∧Ok w' B v' (L++[(i,x)])∧Below B w w':=by
 obtain⟨i0,hi,hz0,hz1,hz2⟩:=info_parts Tryz.infoK;obtain⟨ao,cap,hv,_,hcells⟩:=QoZ w i x;injection hv with e1 _ e3
 subst e1 e3;have hb:=bal (Lb w.heap.size w) (.cells #[.int .u64 i,.string x] 93);have ho:=Qam hown hb;obtain⟨v',w',hrun,r1,r2,_⟩:=run_append_own (P:=prog) _ B 90 ty 93 i0 (.agg #[.int .u64 0,.string ByteArray.empty]) 2 24 underlying90 hi hz0 hz1 hz2 rfl (by decide) v L.length _ ho ⟨w.heap.size,0,none⟩ 1 1 (cK [(i,x)]) (by rw[Qod];rfl) (hcells _ rfl) (Qoe [(i,x)]) (by unfold maxLen;omega) (by omega) (Lu hB hb.size)
 refine⟨v',w',hrun,?_,?_⟩
 ·rw[Ok,QiR,Le];exact r1
 ·exact(hb.mono hB).trans ((St.Upo.grown (S:=fun b=>v.ownBlock=some b) r2 fun b hb=>hb).below (Lu hB hb.size) fun b hb=>(LY hown b hb).1)
theorem Qps{w W1 w2:World}(ht:Tb w)(hT:Tr w)(hb1:Below w.heap.size w W1){a p i kn:Nat}{v:Value}{K:LB}{D:St.DV}(h:LsT W1 w2 a p v kn i K D)(hi:i<=100)(M N:Nat)(hM:M<18446744073709551616)(hN:N<18446744073709551616)(sa:OA)(sb so sc:Nat)(X:List Nat)(hX:RdU w sa sb so X.length X)(hXm:X.length<=maxLen) :
  ∃(va:OA) (vc vn xn yn:Nat) (xd yd s t2:BA) (f e2 g2:Int) (g:Nat),v= .slice va vn vc∧vn<=100∧Below w.heap.size w w2 ∧
   An w2 20 [Pq a,.int .u64 N] (.tuple #[.agg #[.int .u64 xn,.string xd],.int .i64 f]) ∧
   An w2 21 [.int .i64 kn,.slice va vn vc,.int .u64 N] (.tuple #[.agg #[.int .u64 xn,.string xd],.int .i64 f]) ∧
   An w2 20 [Pq a,.int .u64 M] (.tuple #[.agg #[.int .u64 yn,.string yd],.int .i64 e2]) ∧
   An w2 38 [Pq a,.int .u64 N,.slice sa X.length sc] (.tuple #[.string s,.int .i64 g]) ∧
   An w2 35 [Pq a,.int .u64 M,.int .u64 N] (.tuple #[.string t2,.int .i64 g2]) ∧
   (g≠0∨(g=0∧0<X.length∧X.length<=1000∧(∀j,j<X.length -> ∃x,X.getD j 0<vn∧clm K X (j+1)=clm K X j++[(X.getD j 0,x)]∧(∀W,Below w2.heap.size w2 W -> ∃vb,va=Zp vb∧W.cell? ⟨vb,X.getD j 0,none⟩=some (.string x))∧An w2 39 [Pq a,.int .u64 (X.getD j 0:Int)] (.tuple #[.string x,.int .i64 0])) ∧
    ∃t1,An w2 40 [Pq a,.int .u64 N,.int .u64 (X.getD 0 0:Int)] (.tuple #[.string t1,.int .i64 0]) ∧
     ∀W vk vm ck,Below w2.heap.size w2 W->Ok W w2.heap.size (.slice vk vm ck) (clm K X X.length)->vm=X.length∧1<=ck∧Calls prog 41 #[.int .i64 kn,.agg #[.int .u64 xn,.string xd],.slice vk vm ck,.string s] W (fun e w'=>e= .returned (.int .i64 0)∧Below W.heap.size W w') ∧
      Calls prog 41 #[.int .i64 kn,.agg #[.int .u64 xn,.string xd],.slice vk 1 ck,.string t1] W (fun e w'=>e= .returned (.int .i64 0)∧Below W.heap.size W w'))) ∧
   ((e2=0∧f=0∧M<=N∧g2=0∧An w2 36 [.int .i64 kn,.agg #[.int .u64 yn,.string yd],.agg #[.int .u64 xn,.string xd],.string t2] (.int .i64 0))∨((e2≠0∨(e2=0∧f≠0)∨(e2=0∧f=0∧N<M))∧g2≠0)):=by
 obtain⟨hJ,hKi,hKs,hq,he,hac,k1,k2⟩:=h;have hb2:Below w.heap.size w w2:=Qa hb1 hJ.nl.below;have ht2:=ht.next hb2;have hT2:=hT.next hb2;obtain⟨va,bb,vc,q1,q2,q3,q4⟩:=QH hJ.own (fun s hs=>by have:=hKs s hs;omega)
 obtain⟨U,hl,hU,_⟩:=hJ.nl;have hf:Fit kn 134217728 3000 K:=Qj6 k1 k2 (by omega) hKs
 have hz:(St.sA kn (itL kn K)).ends.length=K.length:=Qk6 hf;have hk1:1<=(St.sA kn (itL kn K)).k:=k1;have hk2:(St.sA kn (itL kn K)).k<=32:=k2;have hKz:∀s∈K,s.size<=1048576:=hf.szs;have hc:clk (kn:Int)=kn:=by have:=YP (k:=(kn:Int)) (by omega) (by omega);omega
 have hbX:0<X.length->sb≠a:=fun h0 e=>by
  have h1:=hX.at h0;have h2:=Lf _ _ h1;have h3:=hU a hl.own;have h4:=hb1.size;simp only at h2;omega
 have key:∀i,i<K.length->K[i]? = some (K.getD i ByteArray.empty):=fun i hi=>by rw[Lc,Ll hi];rfl
 have roots:∀n:Nat,∃(xn:Nat) (xd:BA) (f:Int),An w2 20 [Pq a,.int .u64 n] (.tuple #[.agg #[.int .u64 xn,.string xd],.int .i64 f])∧An w2 21 [.int .i64 kn,.slice va K.length vc,.int .u64 n] (.tuple #[.agg #[.int .u64 xn,.string xd],.int .i64 f])∧((f=0∧n<=K.length∧xn=n∧rtD kn K n=xd)∨(f≠0∧K.length<n)):=fun n=>by
  by_cases hn:n<=K.length
  ·exact⟨n,_,0,fun W hW=>(Qek W (ht2.next hW) (hl.next hW) n hn _ rfl),fun W hW=>(QeQ W (hT2.next hW) kn (by omega) (by omega) va bb 0 K.length vc K (q2.next hW (La _)) (fun s hs=>by have:=hKs s hs;omega) (by omega) q3 n hn _ (Qd (by rw[hc];rfl))),.inl ⟨rfl,hn,rfl,rfl⟩⟩
  ·exact⟨0,⟨#[]⟩,30,fun W hW=>(Qj5 W (ht2.next hW) (hl.next hW) n (by omega)),fun W hW=>(QfU W kn (by omega) (by omega) va K.length vc n (by omega) (by omega)),.inr ⟨by decide,by omega⟩⟩
 obtain⟨xn,xd,f,rN,rF,rC⟩:=roots N;obtain⟨yn,yd,e2,rM,_,rD⟩:=roots M;have kin:∃(t2:BA) (g2:Int),An w2 35 [Pq a,.int .u64 M,.int .u64 N] (.tuple #[.string t2,.int .i64 g2]) ∧
   ((e2=0∧f=0∧M<=N∧g2=0∧An w2 36 [.int .i64 kn,.agg #[.int .u64 yn,.string yd],.agg #[.int .u64 xn,.string xd],.string t2] (.int .i64 0))∨((e2≠0∨(e2=0∧f≠0)∨(e2=0∧f=0∧N<M))∧g2≠0)):=by
  by_cases hmn:M<=N∧N<=K.length
  ·obtain⟨c1,_,c2,c3⟩:=rC.resolve_right (fun q=>by have:=q.2;omega)
   obtain⟨d1,_,d2,d3⟩:=rD.resolve_right (fun q=>by have:=q.2;omega)
   obtain⟨t,y1,y2⟩:=Qmx (a:=a) hk1 hk2 (L:=K) (by omega) M N hmn.1 hmn.2 yd xd d3 c3
   subst c2 d2;exact⟨t,0,fun W hW=>(y1 W p U D (ht2.next hW) (hl.next hW)),.inl ⟨d1,c1,hmn.1,rfl,fun W hW=>(y2 W (ht2.next hW))⟩⟩
  ·refine⟨⟨#[]⟩,if K.length<N then 30 else 41,fun W hW=> ?_,.inr ⟨?_,by split <;> decide⟩⟩
   ·exact(Qmw W (ht2.next hW) (hl.next hW) M N hmn)
   ·rcases rC with ⟨c1,c2,_⟩|⟨c1,_⟩
    ·rcases rD with ⟨d1,d2,_⟩|⟨d1,_⟩
     ·exact .inr (.inr ⟨d1,c1,by omega⟩)
     ·exact .inl d1
    ·rcases rD with ⟨d1,_⟩|⟨d1,_⟩
     ·exact .inr (.inl ⟨d1,c1⟩)
     ·exact .inl d1
 obtain⟨t2,g2,kA,kC⟩:=kin;have hlX:∀W,Below w2.heap.size w2 W->RdU W sa sb so X.length X:=fun W hW=>hX.next (Qa hb2 hW)
 by_cases hg:N<=K.length∧Cv.QN N X=0
 ·obtain⟨hn,hs⟩:=hg;obtain⟨c1,_,c2,c3⟩:=rC.resolve_right (fun q=>by have:=q.2;omega)
  subst c2;obtain⟨_,hinc,_,hch⟩:=Cv.Yu hs;have hS0:0<X.length:=hinc.1;have hmem:∀j,j<X.length->X.getD j 0<xn:=fun j hj=>(Cv.UL hch (X.getD j 0) (by rw[Lc,Ll hj];exact LZ _)).2
  obtain⟨s,y1,y2⟩:=QfA hk1 hk2 (L:=K) (by omega) hKz xn hn X hs xd c3
  obtain⟨t1,z1,z2⟩:=Qj4 hk1 hk2 (L:=K) (by omega) hKz xn (X.getD 0 0) hn (hmem 0 hS0) xd c3
  have hXl:X.length<=xn:=(QS (Oi (k:=(kn:Int)) (by omega) (by omega) K (n:=xn) (by omega) hs).1).len
  refine⟨va,vc,K.length,xn,yn,xd,yd,s,t2,f,e2,g2,0,q1,by omega,hb2,rN,rF,rM,fun W hW=>(y1 W a p U D (ht2.next hW) (hl.next hW) sa sb so sc (hlX W hW) hbX),kA,.inr ⟨rfl,hS0,by omega,fun j hj=> ?_,t1,fun W hW=>(z1 W a p U D (ht2.next hW) (hl.next hW)),fun W vk vm ck hW ho=> ?_⟩,kC⟩
  ·have hx:=hmem j hj;have hxK:X.getD j 0<K.length:=by omega
   refine⟨K.getD (X.getD j 0) ByteArray.empty,hxK,Qi2 K X hj,fun W hW=>⟨bb,q2.ptr (by omega),by have:=(q2.next hW (La _)).at hxK;rwa [Lo] at this⟩,fun W hW=> ?_⟩
   exact(Qj1 W (ht2.next hW) (hl.next hW) hz (X.getD j 0) (by omega) _ 0 ((hf.has hq.down he).get rfl (key _ hxK)))
  ·obtain⟨ao,cb,cap,e1,r1,r2,r3⟩:=QmX ho (fun c hc=>Lu (QdU K X _ hKz c hc) (by decide))
   injection e1 with e1 e2 e3
   have hcl:=Qgo K X X.length;rw[Nat.min_self] at hcl;rw[hcl] at r1 r2 e2;subst e1 e2 e3;refine⟨rfl,by omega,(y2 W vk cb ck (ht2.next hW) r1),(z2 W vk cb ck (ht2.next hW) ?_)⟩
   have:=Qic r1 hS0
   rwa [Qi1 K X hS0] at this
 ·obtain⟨g,hge⟩:∃g,(if K.length<N then 30 else Cv.QN N X)=g:=⟨_,rfl⟩
  have h0:g≠0:=by
   rw[<-hge]
   split
   ·decide
   ·exact fun e=>hg ⟨by omega,e⟩
  exact⟨va,vc,K.length,xn,yn,xd,yd,⟨#[]⟩,t2,f,e2,g2,g,q1,by omega,hb2,rN,rF,rM,fun W hW=>(QhN W (ht2.next hW) (hl.next hW) N sa sb so X.length sc X (hlX W hW) hXm hbX g hge h0),kA,.inl h0,kC⟩
section
attribute [local go_sem ↓] St.JJ
theorem bdz2(w:World):Below w.heap.size w w.drew:=(Lb _ _).drew
theorem Qk3{W:World}{b:Nat}{x y:Value}{T:TypeId}(h:W.heap[b]? = some (.cells #[x,y] T (0,0))):W.cell? ⟨b,0,none⟩=some x∧W.cell? ⟨b,1,none⟩=some y :=
 ⟨by rw[cell_of_row W b 0 _ _ (0,0) h];rfl,by rw[cell_of_row W b 1 _ _ (0,0) h];rfl⟩
theorem QbR(w:World)(ht:Tb w)(hT:Tr w)(k:Int)(ao:OA)(b off len cap:Nat)(xs:LB)(hr:RdS w ao b off len xs)(hmx:len<=9223372036854775807)(M N:Nat)(hM:M<18446744073709551616)(hN:N<18446744073709551616)(sa:OA)(sb so sc:Nat)(X:List Nat)(hX:RdU w sa sb so X.length X)(hXm:X.length<=maxLen) :
  Calls prog 8 #[.int .i64 k,.slice ao len cap,.agg #[.int .u64 M,.int .u64 N,.slice sa X.length sc]] w fun e w'=>e= .returned (.bool true)∧Below w.heap.size w w':=by
 obtain⟨w0,hw0⟩:∃W,w.alloc (.cells #[.int .u64 M,.int .u64 N,.slice sa X.length sc] 86)=W:=⟨_,rfl⟩;have hb0:Below w.heap.size w w0:=by rw[<-hw0];exact bal (Lb _ _) _
 have k0:w0.heap[w.heap.size]? = some (.cells #[.int .u64 M,.int .u64 N,.slice sa X.length sc] 86 (0,0)):=by rw[<-hw0];exact Lt w _
 have z0:=(Array.getElem?_eq_some_iff.1 k0).1
 obtain⟨b0,hbe⟩:∃b,w.heap.size=b:=⟨_,rfl⟩;have HC:Hid (∀W,Below w0.heap.size w0 W->W.cell? ⟨b0,0,none⟩=some (.int .u64 M)∧W.cell? ⟨b0,1,none⟩=some (.int .u64 N)∧W.cell? ⟨b0,2,none⟩=some (.slice sa X.length sc) ∧ ∀j,j<X.length->sa=some ⟨sb,so,none⟩∧W.cell? ⟨sb,so+j,none⟩=some (.int .u64 (X.getD j 0:Int))):=fun W hW=>by
  have q:=(hW.block _ z0).trans k0;rw[hbe] at q;have hU:=hX.next (Qa hb0 hW);exact⟨by rw[cell_of_row W b0 0 _ _ (0,0) q];rfl,by rw[cell_of_row W b0 1 _ _ (0,0) q];rfl,by rw[cell_of_row W b0 2 _ _ (0,0) q];rfl,fun j hj=>⟨hU.ptr (by omega),hU.at hj⟩⟩
 have HBg:Hid (Calls prog 31 #[] w0 fun e w'=>e= .returned (.bool true)∧Below w0.heap.size w0 w'):=Qhc w0 (ht.next hb0) (hT.next hb0)
 have HW0:=Qd hw0;have HB0:=Qd hbe;have HU0:=Qd hb0
 by_cases hk:1<=k∧k<=32
 ·obtain⟨kn,rfl⟩:∃n:Nat,k=(n:Int):=⟨k.toNat,by omega⟩
  have y1:¬(kn:Int)<1:=by omega
  have y2:¬(32:Int)<(kn:Int):=by omega
  have HSt:Hid (∀W,Below w0.heap.size w0 W->Calls prog 37 #[.int .i64 kn,.slice ao len cap] W fun e w'=> ∃p a v i K D,e= .returned (.tuple #[Pq p,Pq a,v])∧Hid (i<=100∧LsT W w' a p v kn i K D)):=fun W hW=>
   (QbL W (ht.next (Qa hb0 hW)) kn (by omega) (by omega) ao b off len cap xs (hr.next (Qa hb0 hW) (La _)) hmx).mono fun e w' z=>by
    obtain⟨p,a,v,i,D,z1,z2,_,_,z5⟩:=z;exact⟨p,a,v,i,_,D,z1,z2,z5⟩
  have HT0:Hid (Tb w∧Tr w∧RdU w sa sb so X.length X∧X.length<=maxLen∧M<18446744073709551616∧N<18446744073709551616):=⟨ht,hT,hX,hXm,hM,hN⟩;clear ht hT hr hX hw0 hb0 k0 z0 hbe hk hXm hmx hM hN
  go_enter func8,ntmps8
  go_upto_region 1 with (fail)
  rw[HW0.out,HB0.out]
  go_upto_region 8 with (first
   | (go_at_call 31;(with_reducible refine HBg.out.mono ?_);rintro e w1 ⟨rfl,u1⟩)
   | (go_at_call 37;(with_reducible refine(HSt.out _ u1).mono ?_);rintro e w2 ⟨p,a,v,i,K,D,rfl,HL⟩))
  obtain⟨ht,hT,hX,hXm,hM,hN⟩:=HT0.out;have hbz:Below w0.heap.size w0 w2:=Qa u1 HL.out.2.below;obtain⟨va,vc,vn,xn,yn,xd,yd,s,t2,f,e2,g2,g,rfl,hvn,hb2,rN,rF,rM,rB,rA,rG,rK⟩:=Qps ht hT (Qa HU0.out u1) HL.out.2 HL.out.1 M N hM hN sa sb so sc X hX hXm;have HN:=Qd rN;have HF:=Qd rF;have HM:=Qd rM;have HBt:=Qd rB;have HA:=Qd rA;have HG:=Qd rG;have HK:=Qd rK;have HB2:=Qd hb2;have HC2:Hid (∀W,Below w2.heap.size w2 W->W.cell? ⟨b0,0,none⟩=some (.int .u64 M)∧W.cell? ⟨b0,1,none⟩=some (.int .u64 N)∧W.cell? ⟨b0,2,none⟩=some (.slice sa X.length sc) ∧ ∀j,j<X.length->sa=some ⟨sb,so,none⟩∧W.cell? ⟨sb,so+j,none⟩=some (.int .u64 (X.getD j 0:Int))):=fun W hW=>HC.out W (Qa hbz hW)
  have hff:(f != f)=false:=by simp
  have hxx:(xd.toList == xd.toList)=true:=by simp
  clear ht hT hX hXm hM hN hbz rN rF rM rB rA rG rK hb2 HC HT0 HL HSt HBg u1 HU0 y1 y2;obtain⟨c0,c1,c2,_⟩:=HC2.out w2 (Lb _ _)
  go_upto_region 9 with (go_at_call 20;(with_reducible refine(HN.out _ (Lb _ _)).mono ?_);rintro e w3 ⟨rfl,u3⟩)
  obtain⟨w4,hw4⟩:∃W,w3.alloc (.cells #[.int .u64 xn,.string xd] 50)=W:=⟨_,rfl⟩;have v4:Below w3.heap.size w3 w4:=by rw[<-hw4];exact bal (Lb _ _) _
  have u4:Below w2.heap.size w2 w4:=Qa u3 v4;have k4:w4.heap[w3.heap.size]? = some (.cells #[.int .u64 xn,.string xd] 50 (0,0)):=by rw[<-hw4];exact Lt w3 _
  rw[hw4];generalize w3.heap.size=q4 at *;obtain⟨c0,c1,c2,_⟩:=HC2.out w4 u4
  go_upto_region 10 with (go_at_call 21;(with_reducible refine(HF.out _ u4).mono ?_);rintro e w5 ⟨rfl,u5⟩)
  obtain⟨w6,hw6⟩:∃W,w5.alloc (.cells #[.int .u64 xn,.string xd] 50)=W:=⟨_,rfl⟩;have u6:Below w4.heap.size w4 w6:=by rw[<-hw6];exact bal u5 _
  have k6:w6.heap[w5.heap.size]? = some (.cells #[.int .u64 xn,.string xd] 50 (0,0)):=by rw[<-hw6];exact Lt w5 _
  obtain⟨d0,d1⟩:=Qk3 k6;rw[hw6];generalize w5.heap.size=q6 at *;have HC6:Hid (∀W,Below w6.heap.size w6 W->(W.cell? ⟨b0,0,none⟩=some (.int .u64 M)∧W.cell? ⟨b0,1,none⟩=some (.int .u64 N)∧W.cell? ⟨b0,2,none⟩=some (.slice sa X.length sc) ∧ ∀j,j<X.length->sa=some ⟨sb,so,none⟩∧W.cell? ⟨sb,so+j,none⟩=some (.int .u64 (X.getD j 0:Int)))∧(W.cell? ⟨q4,0,none⟩=some (.int .u64 xn)∧W.cell? ⟨q4,1,none⟩=some (.string xd))∧Below w2.heap.size w2 W):=fun W hW=>
   ⟨HC2.out W (Qa (Qa u4 u6) hW),Qk3 (((Qa u6 hW).block q4 (Array.getElem?_eq_some_iff.1 k4).1).trans k4),Qa (Qa u4 u6) hW⟩
  clear hw4 hw6 v4 u3 k4 k6 u5 u4 u6 HC2 HN HF c0 c1 c2;obtain⟨⟨c0,c1,c2,_⟩,⟨e0,e1⟩,v6⟩:=HC6.out w6 (Lb _ _)
  go_upto_region 12 with (fail)
  clear d0 d1 hff hxx
  go_upto_if 74 with (go_at_call 38;(with_reducible refine(HBt.out _ v6).mono ?_);rintro e w7 ⟨rfl,u7⟩)
  have HU7:Hid (Below w6.heap.size w6 w7):=u7;clear c0 c1 c2 e0 e1 v6 u7
  go_cut [16,17,18,19,20,21,74] from 75 to 160 (fun _ _ _ _ _ _ _ wx=>Hid (Below w6.heap.size w6 wx))
  case first=>
   clear HM HA HK
   rcases HG.out with g0|⟨rfl,hS0,hXl,hGet,t1,hP,hCl⟩
   ·have hz:((g:Int) == 0)=false:=by simpa using g0
    clear HG g0;go_wp2
    go_meet
    case rel=>exact HU7
   ·have HGt:=Qd hGet;have HPp:=Qd hP;have HCl:=Qd hCl;obtain⟨⟨c0,c1,c2,_⟩,_,_⟩:=HC6.out w7 HU7.out;have hz:((X.length:Int) == 0)=false:=by rw[beq_eq_false_iff_ne];omega
    have HS0:=Qd hS0;clear HG hGet hP hCl hS0;have HK7:Hid (Ok w7 w6.heap.size (.slice none 0 0) (clm K X 0)):=Qkv _ _;go_wp2
    go_loopg [16,17] X.length (fun gg cv iv wr=> ∃j:Nat,j<=X.length∧gg=X.length-j∧iv= .int .i64 j∧Hid (Ok wr w6.heap.size cv (clm K X j))∧Hid (Below w6.heap.size w6 wr))
    case atStart=>go_light;exact⟨0,Ln _,rfl,rfl,HK7,HU7⟩
    case round=>
     clear HK7 HU7 c0 c1 c2 hz;obtain⟨j,hj,rfl,rfl,HO,HU⟩:=hrel;obtain⟨⟨c0,c1,c2,cj⟩,_,vj⟩:=HC6.out wr HU.out
     by_cases hlt:j<X.length
     ·have hzj:(j:Int)<(X.length:Int):=by omega
      obtain⟨rfl,cs⟩:=cj j hlt;obtain⟨x,hx1,hx2,hx3,hx4⟩:=HGt.out j hlt;obtain⟨y,hy⟩:∃y,X.getD j 0=y:=⟨_,rfl⟩;rw[hy] at cs hx1 hx2 hx3 hx4;obtain⟨vb,rfl,cl⟩:=hx3 wr vj;have HGe:=Qd (hx4 wr vj);have HAf:Hid (∀W,Below wr.heap.size wr W->W.cell? ⟨b0,2,none⟩=some (.slice (some ⟨sb,so,none⟩) X.length sc)∧W.cell? ⟨sb,so+j,none⟩=some (.int .u64 y)∧W.cell? ⟨vb,y,none⟩=some (.string x)):=fun W hW=>by
       obtain⟨⟨_,_,a2,aj⟩,_,av⟩:=HC6.out W (Qa HU.out hW);have h2:=(aj j hlt).2;obtain⟨vb',e1,h3⟩:=hx3 W av
       cases e1;rw[hy] at h2;exact⟨a2,h2,h3⟩
      obtain⟨ka,km,kc,rfl⟩:=Qku HO.out;have hkl:=Qgo K X j;have HAp:Hid (∀W,Below wr.heap.size wr W -> ∃ao n cap w5,(Builtin.append_ #[90,90] 90 #[.slice ka km kc,.slice (Zp W.heap.size) 1 1]).run prog (W.alloc (.cells #[.int .u64 y,.string x] 93))= .ok (.slice ao n cap) w5∧Hid (Ok w5 w6.heap.size (.slice ao n cap) (clm K X (j+1)))∧Hid (Below w6.heap.size w6 w5)):=fun W hW=>by
       have hz6:=HU.out.size;obtain⟨v',w5,r1,r2,r3⟩:=Qil W 90 w6.heap.size _ _ (Qam HO.out hW) y x (by omega) (Lu hz6 hW.size)
       obtain⟨a,n,c,rfl⟩:=Qku r2;exact⟨a,n,c,w5,r1,by rw[hx2];exact r2,(Qa HU.out hW).trans r3⟩
      have hyn:(y:Int)<(vn:Int):=by omega
      have hge:¬(vn:Int)<=(y:Int):=by omega
      have hge2:decide ((vn:Int)<=(y:Int))=false:=Lx hge
      have ew:IntKind.u64.wrap (vn:Int)=(vn:Int):=by rw[IntKind.wrap_u64];omega
      have ew2:IntKind.i64.wrap ((j:Int)+1)=(j:Int)+1:=by rw[Lz];omega
      have hxx:(!(x.toList == x.toList))=false:=by simp
      have y0:(0:Int)<=(y:Int):=Lh _;have HNj:Hid (j+1<=X.length):=by show j+1<=_;omega
      clear cj hy hx1 hx2 hx3 hx4 hkl hlt HPp HCl HO HGt
      go_upto_region 21 with (go_at_call 39;(with_reducible refine HGe.out.mono ?_);rintro e w8 ⟨rfl,u8⟩)
      obtain⟨c2,cs,cl⟩:=HAf.out w8 u8;obtain⟨ea,en,ec,w9,h9,HO9,HU9⟩:=HAp.out w8 u8;have ha:=St.QaI h9;clear h9 HAp HAf HGe u8 c0 c1 vj;go_wp2
      go_roundg (X.length-(j+1))
      case rel=>go_light;exact⟨j+1,HNj.out,rfl,by go_num,HO9,HU9⟩
      case measure=>go_light;have:=HNj.out;omega
     ·have hzj:¬(j:Int)<(X.length:Int):=by omega
      obtain rfl:j=X.length:=by omega
      obtain⟨ka,km,kc,rfl⟩:=Qku HO.out;obtain⟨rfl,cs⟩:=cj 0 HS0.out;rw[Iq] at cs;obtain⟨y,hy⟩:∃y,X.getD 0 0=y:=⟨_,rfl⟩;rw[hy] at cs HPp;have hx0:(0:Int)<(X.length:Int):=by have:=HS0.out;omega
      have HP1:=Qd (HPp.out wr.drew vj.drew);have HCa:Hid (∀W,Below wr.heap.size wr W->km=X.length∧1<=kc∧(W.cell? ⟨q4,0,none⟩=some (.int .u64 xn)∧W.cell? ⟨q4,1,none⟩=some (.string xd))∧Hid (Calls prog 41 #[.int .i64 kn,.agg #[.int .u64 xn,.string xd],.slice ka km kc,.string s] W (fun e w'=>e= .returned (.int .i64 0)∧Below W.heap.size W w')) ∧
        Hid (Calls prog 41 #[.int .i64 kn,.agg #[.int .u64 xn,.string xd],.slice ka 1 kc,.string t1] W (fun e w'=>e= .returned (.int .i64 0)∧Below W.heap.size W w'))∧Hid (Below w6.heap.size w6 W)):=fun W hW=>by
       obtain⟨_,av,aw⟩:=HC6.out W (Qa HU.out hW);obtain⟨r1,r2,r3,r4⟩:=HCl.out W ka km kc aw (QhY (Qam HO.out hW) (by have:=HC6.out w6 (Lb _ _);exact this.2.2.size))
       exact⟨r1,r2,av,r3,r4,Qa HU.out hW⟩
      have HS4:Hid (∀W,Below wr.heap.size wr W->W.cell? ⟨b0,1,none⟩=some (.int .u64 N)∧W.cell? ⟨b0,2,none⟩=some (.slice (some ⟨sb,so,none⟩) X.length sc)∧W.cell? ⟨sb,so,none⟩=some (.int .u64 y)):=fun W hW=>by
       obtain⟨⟨_,a1,a2,aj⟩,_,_⟩:=HC6.out W (Qa HU.out hW);have h2:=(aj 0 HS0.out).2;rw[Iq,hy] at h2;exact⟨a1,a2,h2⟩
      have u:=bdz2 wr;clear cj HGt HO hy hlt hj;generalize X.length=xl at *;have hx1:0<xl:=by omega
      have hx2:(0:Int)<=(0:Int):=Int.le_refl _
      go_upto_region 24 with (fail)
      go_region_held3 (fun Z=>Z.cell? ⟨b0,1,none⟩=some (.int .u64 N)∧Z.cell? ⟨b0,2,none⟩=some (.slice (some ⟨sb,so,none⟩) xl sc)∧Z.cell? ⟨sb,so,none⟩=some (.int .u64 y)) (first|assumption|(with_reducible exact HS4.out _ u)) (first|(go_at_call 40;(with_reducible refine HP1.out.mono ?_);rintro e w8 ⟨rfl,u8⟩;have u:=Qa (bdz2 wr) u8))
      obtain⟨rfl,hk1,_⟩:=HCa.out w8 u;have hk2:(1:Int)<=(kc:Int):=by omega
      have HS5:Hid (∀W,Below wr.heap.size wr W->W.cell? ⟨q4,0,none⟩=some (.int .u64 xn)∧W.cell? ⟨q4,1,none⟩=some (.string xd)):=fun W hW=>(HCa.out W hW).2.2.1
      have v:=Qa u (bdz2 w8);obtain⟨e0,e1⟩:=HS5.out _ v;clear cs c0 c1 c2 vj HP1 HPp HS4 u8 hx0 hx1 hx2 hk1 hzj
      go_upto_region 25 with (fail)
      go_region_held3 (fun Z=>Z.cell? ⟨q4,0,none⟩=some (.int .u64 xn)∧Z.cell? ⟨q4,1,none⟩=some (.string xd)) (first|assumption|(with_reducible exact HS5.out _ v)) (first
       | (go_at_call 41;(with_reducible refine(HCa.out _ v).2.2.2.1.out.mono ?_);rintro e w9 ⟨rfl,u9⟩;have v:=Qa v u9)
       | (go_at_call 41;(with_reducible refine(HCa.out _ v).2.2.2.2.1.out.mono ?_);rintro e w9 ⟨rfl,u9⟩;have v:=Qa v u9))
      all_goals
       go_wp2
       go_meet
       case rel=>exact(HCa.out _ v).2.2.2.2.2
  case rest=>
   clear HBt HG HU7;obtain⟨⟨c0,c1,c2,_⟩,_,vw⟩:=HC6.out wc hcut.out
   go_upto_region 28 with (go_at_call 20;(with_reducible refine(HM.out _ vw).mono ?_);rintro e w10 ⟨rfl,u10⟩)
   obtain⟨w11,hw11⟩:∃W,w10.alloc (.cells #[.int .u64 yn,.string yd] 50)=W:=⟨_,rfl⟩;have u11:Below wc.heap.size wc w11:=by rw[<-hw11];exact bal u10 _
   have k11:w11.heap[w10.heap.size]? = some (.cells #[.int .u64 yn,.string yd] 50 (0,0)):=by rw[<-hw11];exact Lt w10 _
   rw[hw11];generalize w10.heap.size=q11 at *;obtain⟨⟨c0,c1,c2,_⟩,_,v11⟩:=HC6.out w11 (Qa hcut.out u11);clear hw11 u10 vw HM
   go_upto_region 29 with (go_at_call 35;(with_reducible refine(HA.out _ v11).mono ?_);rintro e w12 ⟨rfl,u12⟩)
   obtain⟨⟨c0,c1,c2,_⟩,⟨e0,e1⟩,v12⟩:=HC6.out w12 (Qa (Qa hcut.out u11) u12);obtain⟨f0,f1⟩:=Qk3 ((u12.block q11 (Array.getElem?_eq_some_iff.1 k11).1).trans k11)
   have HZ:=Qd (Qa HB2.out v12);clear HA v11 u11 k11 HC6 HB2 c2
   rcases HK.out with ⟨rfl,rfl,hmn,rfl,hKin⟩|⟨hc,hg⟩
   ·have hz:¬(N:Int)<(M:Int):=by omega
    have hz2:decide ((N:Int)<(M:Int))=false:=Lx hz
    have HKn:=Qd (hKin _ v12);clear hKin HK hmn v12 u12
    go_wp2_with (go_at_call 36;(with_reducible refine HKn.out.mono ?_);rintro e w13 ⟨rfl,u13⟩)
    go_ret
    exact⟨rfl,Qa HZ.out u13⟩
   ·have hg1:(g2 != 0)=true:=by simpa using hg
    clear HK v12 u12 hg
    rcases hc with h|⟨rfl,h⟩|⟨rfl,rfl,h⟩
    ·have h1:(e2 != 0)=true:=by simpa using h
     clear h;go_wp2
     go_ret
     exact⟨rfl,HZ.out⟩
    ·have h1:(f != 0)=true:=by simpa using h
     clear h;go_wp2
     go_ret
     exact⟨rfl,HZ.out⟩
    ·have hz:(N:Int)<(M:Int):=by omega
     have hz2:decide ((N:Int)<(M:Int))=true:=LV hz
     clear h;go_wp2
     go_ret
     exact⟨rfl,HZ.out⟩
 ·have hk2:k<1∨(¬k<1∧32<k):=by omega
  clear HC ht hT hr hX hw0 hb0 k0 z0 hbe hk
  rcases hk2 with h1|⟨h1,h2⟩
  all_goals
   go_enter func8,ntmps8
   go_upto_region 1 with (fail)
   rw[HW0.out,HB0.out]
   go_wp2_with (go_at_call 31;(with_reducible refine HBg.out.mono ?_);rintro e w1 ⟨rfl,u1⟩)
   go_ret
   exact⟨rfl,Qa HU0.out u1⟩
end
theorem QdD{a:Int}(wf:(Lit.int .u64 a).wf=true):∃n:Nat,a=(n:Int)∧n<18446744073709551616:=by
 have:=bounds_u64 wf;exact⟨a.toNat,by omega,by omega⟩
namespace wholeComplete
open Go.ChangeShapes Go.WideShapes Go.ChangeAt Go.RowKit
theorem own:ownKnob prog.godebug=none:=by kernel_rfl
theorem laidOut:laidOutB prog=true:=by kernel_rfl
theorem QlT:prog.cellsOf 9=1:=by kernel_rfl
theorem QlQ:prog.bytesOf 9=16:=by kernel_rfl
theorem QdH{H:Type}(l:LB)(s:BA)(hs:s∈l):s.size∈DataW.weightsAll prog 9 (strs (H:=H) l):=by
 induction l with
 | nil=>cases hs
 | cons x r ih=>
  simp only[strs,List.map_cons,DataW.weightsAll,DataW.weights,List.mem_append,List.mem_singleton]
  rcases List.mem_cons.1 hs with rfl|h
  ·left;rw[NZ];rfl
  ·right;exact ih h
theorem Qlc{H:Type}{enc:TypeId×Value->H}{W:World}{fuel:Nat}{ao:OA}{len cap:Nat}{x:DataW H×List MemPlace}{ts:List TypeId}{ds:List (DataW H)}{j:Nat}(hf:DataW.trod enc prog W 0 (fun _=>true) true fuel 22 [.slice ao len cap]=some x)
  (hz:(DataW.weightsEach prog ts ds).all (· <= reachBytes)=true) (hj:ts[j]? = some 22) (hd:ds[j]? = some x.1) :
  ∃(b off:Nat) (ss:LB),RdS W ao b off len ss∧(∀s∈ss,s.size<=140737488351232)∧len<=8796093021952∧len<=cap∧(ao=none->cap=0):=by
 rcases open_strings underlying22 underlying9 QlT hf with ⟨hcs,hx⟩|⟨a,len',cap',ss,hcs,_,hl,hm,hzl,hx,hcell,hws⟩
 ·simp at hcs;obtain⟨rfl,rfl,rfl⟩:=hcs;exact⟨0,0,[],⟨rfl,fun h=>absurd h (Ns 0),(fun j v h=>by cases h),(fun s h=>by cases h)⟩,(fun s h=>by cases h),Ln _,La _,fun _=>rfl⟩
 ·simp at hcs;obtain⟨rfl,rfl,rfl⟩:=hcs;simp only[if_true] at hzl;have hcap:cap<=8796093021952:=by
   have hd':=hd;rw[hx] at hd';have h1:=List.all_eq_true.1 hz _ (DataW.weights_mem_each hj hd' _ (by simp only[DataW.weights,underlying22];exact NC))
   have h2:=NY h1;simp only[strs,List.length_map,List.length_take,List.length_drop,QlQ] at h2;unfold reachBytes at h2;omega
  have hsz:∀s∈ss.take len,s.size<=140737488351232:=fun s hs=>by
   rw[hx] at hd;have:=List.all_eq_true.1 hz _ (DataW.weights_mem_each hj hd s.size (by simp only[DataW.weights,underlying22,List.mem_cons,List.mem_append];exact Or.inr (Or.inl (QdH _ s hs))))
   exact NY this
  by_cases h0:len=0
  ·subst h0;exact⟨0,0,[],⟨rfl,fun h=>absurd h (Ns 0),(fun j v h=>by cases h),(fun s h=>by cases h)⟩,(fun s h=>by cases h),Ln _,hl,fun h=>by cases h⟩
  ·obtain⟨b,off,spot⟩:=a;have hspot:spot=none:=by simpa [Addr.add] using World.cell?_spot (hcell 0 (by omega))
   subst hspot;refine⟨b,off,ss.take len,⟨by rw[LA];omega,fun _=>rfl,fun j v hv=> ?_,fun s hs=>Lu (hsz s hs) (by decide)⟩,hsz,by omega,hl,fun h=>by cases h⟩
   have hj:j<len:=by have:=(List.getElem?_eq_some_iff.1 hv).1;rw[LC,LA] at this;omega
   have hc:=hcell j (by omega)
   rw[Addr.add_mid] at hc;rw[hc,<-hv];simp[hj,List.getD_eq_getElem?_getD,List.getElem?_eq_getElem (show j<ss.length by omega)]
theorem Qgn:prog.cellsOf 48=1:=by kernel_rfl
theorem QiW:prog.cellsOf 66=1:=by kernel_rfl
theorem QlP:prog.bytesOf 48=8:=by kernel_rfl
theorem Qnp{H:Type}{enc:TypeId×Value->H}{W:World}{fuel:Nat}{v:Value}{x:DataW H×List MemPlace}(hf:DataW.trod enc prog W 0 (fun _=>true) true fuel 66 [v]=some x)(hw:∀y∈DataW.weights prog 66 x.1,y<=reachBytes) :
  ∃(ao:OA) (b off cap:Nat) (l:List Nat),v= .slice ao l.length cap∧RdU W ao b off l.length l∧l.length<=17592186043904∧(ao=none->cap=0)∧l.length<=cap:=by
 rcases open_ints underlying66 underlying48 Qgn hf with ⟨hcs,hx⟩|⟨a,len,cap,zs,hcs,_,hl,hm,hzl,hx,hcell,hws⟩
 ·simp at hcs;subst hcs;exact⟨none,0,0,0,[],rfl,⟨rfl,fun h=>absurd h (Ns 0),fun j v h=>by cases h⟩,Ln _,(fun _=>rfl),La _⟩
 ·simp at hcs;subst hcs;simp only[if_true] at hzl;rw[hx] at hw;have hcap:cap<=17592186043904:=by
   have h2:=hw _ (by simp only[DataW.weights,underlying66];exact NC)
   simp only[lits,List.length_map,List.length_take,List.length_drop,QlP] at h2;unfold reachBytes at h2;omega
  by_cases h0:len=0
  ·subst h0;exact⟨some a,0,0,cap,[],rfl,⟨rfl,fun h=>absurd h (Ns 0),fun j v h=>by cases h⟩,Ln _,(fun h=>by cases h),Ln _⟩
  ·obtain⟨b,off,spot⟩:=a;have hspot:spot=none:=by simpa [Addr.add] using World.cell?_spot (hcell 0 (by omega))
   subst hspot;have hll:((zs.take len).map Int.toNat).length=len:=by rw[LC,LA];omega
   refine⟨some ⟨b,off,none⟩,b,off,cap,(zs.take len).map Int.toNat,by rw[hll],⟨rfl,fun _=>rfl,fun j v hv=> ?_⟩,by omega,(fun h=>by cases h),by omega⟩
   have hj:j<len:=by have:=(List.getElem?_eq_some_iff.1 hv).1;simp at this;omega
   have hjz:j<zs.length:=by omega
   have hc:=hcell j hjz;rw[Addr.add_mid] at hc;rw[hc];obtain⟨p,hp,_⟩:=QdD (hws zs[j] (LZ _));have e1:zs.getD j 0=(p:Int):=by rw[Lc,Ll hjz];exact hp
   rw[e1,<-hv];rw[show Cv.cU ((zs.take len).map Int.toNat)=((zs.take len).map Int.toNat).map (fun n:Nat=>Value.int .u64 n) from rfl,No,No,Ig hj,Ll hjz,hp];rfl
theorem QlS:prog.cellsOf 86=3:=by kernel_rfl
theorem QoV{H:Type}{enc:TypeId×Value->H}{W:World}{fuel:Nat}{cs:List Value}{x:DataW H×List MemPlace}(hl:cs.length=3)(hf:DataW.trod enc prog W 0 (fun _=>true) true fuel 86 cs=some x)(hw:∀y∈DataW.weights prog 86 x.1,y<=reachBytes) :
  ∃(m n:Nat) (sa:OA) (sb so sc:Nat) (S:List Nat),cs=[.int .u64 m,.int .u64 n,.slice sa S.length sc]∧RdU W sa sb so S.length S∧S.length<=17592186043904∧m<18446744073709551616∧n<18446744073709551616:=by
 obtain⟨xs,k,hk,hxy,_,hxl,hg⟩:=DataW.trod_struct underlying86 hf
 match xs,hxl,cs,hl with
 | [y0,y1,y2],_,[v0,v1,v2],_=>
  have g0:=hg 0 _ rfl;have g1:=hg 1 _ rfl;have g2:=hg 2 _ rfl;simp[Qgn,QiW] at g0 g1 g2;obtain⟨z0,e0,f0,wf0⟩:=DataW.trod_int underlying48 g0;obtain⟨z1,e1,f1,wf1⟩:=DataW.trod_int underlying48 g1;simp only[List.cons.injEq,and_true] at e0 e1;subst e0 e1;obtain⟨n0,rfl,hn0⟩:=QdD wf0;obtain⟨n1,rfl,hn1⟩:=QdD wf1;rw[hxy] at hw;obtain⟨sa,sb,so,sc,S,rfl,h1,h2,h3⟩:=Qnp g2 (fun y hy=>hw y (by
   simp only[DataW.weights,underlying86,List.map_cons,List.map_nil,DataW.weightsEach,List.mem_append];exact Or.inr (Or.inr (Or.inl hy))))
  exact⟨n0,n1,sa,sb,so,sc,S,rfl,h1,h2,hn0,hn1⟩
theorem Qb2:prog.cellsOf 403=64:=by kernel_rfl
theorem Qhm:prog.cellsOf 346=8:=by kernel_rfl
theorem Qad:prog.cellsOf 110=1:=by kernel_rfl
theorem Qaq{W:World}{name:String}{l:List Int}{g:Nat}(h:Lib.TabIs prog W name .u32 l)(hg:prog.globalNamed name=some g):W.rangeAt g 0 (cW l):=fun j v hv=>by
 have hj:j<l.length:=by have:=(List.getElem?_eq_some_iff.1 hv).1;rwa [Qn] at this
 have hc:=h.cell hg j hj;rw[Lo,hc,<-hv];simp[cW,List.getD_eq_getElem?_getD,List.getElem?_eq_getElem hj]
theorem gn0:prog.globalNamed "massif/massifref01.first" = some 0:=by kernel_rfl
theorem gt0:(prog.globals[0]?).map (·.type)=some 346:=by kernel_rfl
theorem tab0{W:World}(h0:laidMetH prog Rows.wholeCompleteRow.laid W):W.rangeAt 0 0 (cW IV):=by
 exact Qaq (Lib.tabIs_of_head (zs:=IV) gn0 gt0 underlying346 underlying110 Qad Qhm h0) gn0
theorem gn1:prog.globalNamed "massif/massifref01.rounds" = some 1:=by kernel_rfl
theorem gt1:(prog.globals[1]?).map (·.type)=some 403:=by kernel_rfl
theorem tab1{W:World}(h0:laidMetH prog Rows.wholeCompleteRow.laid W):W.rangeAt 1 0 (cW RS):=by
 have h1:laidMet prog [("massif/massifref01.rounds",Rows.laid_massif_massifref01_rounds),("massif/sha.rounds",Rows.laid_massif_sha_rounds)] W:=laidMet.tail (h0:laidMet prog Rows.wholeCompleteRow.laid W)
 exact Qaq (Lib.tabIs_of_head (zs:=RS) gn1 gt1 underlying403 underlying110 Qad Qb2 h1) gn1
theorem gn2:prog.globalNamed "massif/sha.rounds" = some 3:=by kernel_rfl
theorem gt2:(prog.globals[3]?).map (·.type)=some 403:=by kernel_rfl
theorem tab2{W:World}(h0:laidMetH prog Rows.wholeCompleteRow.laid W):W.rangeAt 3 0 (cW RS):=by
 have h1:laidMet prog [("massif/massifref01.rounds",Rows.laid_massif_massifref01_rounds),("massif/sha.rounds",Rows.laid_massif_sha_rounds)] W:=laidMet.tail (h0:laidMet prog Rows.wholeCompleteRow.laid W)
 have h2:laidMet prog [("massif/sha.rounds",Rows.laid_massif_sha_rounds)] W:=laidMet.tail h1
 exact Qaq (Lib.tabIs_of_head (zs:=RS) gn2 gt2 underlying403 underlying110 Qad Qb2 h2) gn2
def Qfz(l:List Int):Obj->Obj
 | .cells _ t frozen=> .cells (cW l).toArray t frozen
 | o=>o
def QbQ(w:World):World := { w with heap:=(((w.heap.modify 0 (Qfz IV)).modify 1 (Qfz RS)).modify 3 (Qfz RS)) }
theorem Qj0(os:Os):laidMet prog Rows.wholeCompleteRow.laid ((QbQ (World.holding prog os ⟨#[],#[],[]⟩)).forCall (fun _ _=>0) ⟨#[],#[.int .i64 0,.slice none 0 0,.agg #[.int .u64 0,.int .u64 0,.slice none 0 0]],[]⟩).memory :=
 laidMet_of_run' 8 (by kernel_rfl) (by kernel_rfl)
theorem QpI(os:Os){H:Type}(enc:TypeId×Value->H):∃places,DataW.whole enc prog ((QbQ (World.holding prog os ⟨#[],#[],[]⟩)).forCall (fun _ _=>0) ⟨#[],#[.int .i64 0,.slice none 0 0,.agg #[.int .u64 0,.int .u64 0,.slice none 0 0]],[]⟩).memory Tryz.f8.params.toList Rows.wholeCompleteSpec.vars false (#[.int .i64 0,.slice none 0 0,.agg #[.int .u64 0,.int .u64 0,.slice none 0 0]]:Array Value).toList 8=some ([.lit (.int .i64 0),.nil,.agg [.lit (.int .u64 0),.lit (.int .u64 0),.nil]],[],places) :=
 ⟨[],by kernel_rfl⟩
theorem QoH(os:Os)(started:os.Started)(H:Type)(enc:TypeId×Value->H)(F:Stop.Interp) :
  ReturnsInHanded {} Tryz.checked os 8 .any ((OpenSpec.ofChange Rows.wholeCompleteSpec).preRow enc prog Tryz.f8 Rows.wholeCompleteRow.domain false Rows.wholeCompleteRow.laid) (((OpenSpec.ofChange Rows.wholeCompleteSpec).at F).post enc prog Tryz.f8 false true false false):=by
 obtain⟨places,hx⟩:=QpI os enc;refine returnsInHanded_of_row (C:=Tryz.checked) (s:=OpenSpec.ofChange Rows.wholeCompleteSpec) own started (by kernel_rfl) func8
  (witness_row_at (enc:=enc) (C:=Tryz.checked) false (QbQ (World.holding prog os ⟨#[],#[],[]⟩)) #[.int .i64 0,.slice none 0 0,.agg #[.int .u64 0,.int .u64 0,.slice none 0 0]] rfl (by kernel_rfl) (by kernel_rfl) (by kernel_rfl)
   (OpenSpec.preRow_of_cond 8 hx (by kernel_rfl) (fun k hk=>by cases hk) (by kernel_rfl) (Qj0 os))) ?_
 intro W base args ds gs before hval0 hW0 _ _ hz0 hL _ _
 show Calls prog 8 args W fun e W'=> ∃v,e= .returned v∧Rows.wholeCompleteSpec.post enc prog Tryz.f8 false true false false W args v W'
 have hW:DataW.Whole enc prog Tryz.f8.params.toList Rows.wholeCompleteSpec.vars false W args.toList ds gs before:=hW0;have hval:∀(j:Nat) t v,Tryz.f8.params[j]? = some t->args[j]? = some v->Value.okWide prog W .any base t v:=hval0;have hW':=hW;obtain⟨p,q,hA0,hV,rfl,hfz,hnd⟩:=hW;have hA:DataW.TrodAll enc prog W 0 (fun _=>true) true Tryz.f8.params.toList args.toList ds p:=hA0
 rw[Tryz.params8] at hA hval;obtain⟨v0,vs0,d0,ds0,p0,q0,hargs,rfl,rfl,h0,r0⟩:=trodAll_cons hA;obtain⟨v1,vs1,d1,ds1,p1,q1,rfl,rfl,rfl,h1,r1⟩:=trodAll_cons r0;obtain⟨v2,vs2,d2,ds2,p2,q2,rfl,rfl,rfl,h2,r2⟩:=trodAll_cons r1;obtain⟨rfl,rfl,rfl⟩:=trodAll_nil r2;obtain rfl:args=#[v0,v1,v2]:=by cases args;simp_all
 obtain⟨rfl,rfl⟩:=trodVars_none hV;have hz:(DataW.weightsEach prog [3,22,86] [d0,d1,d2]).all (· <= reachBytes)=true:=hz0;clear hz0;obtain⟨a0,rfl,rfl,rfl,w0⟩:=open_int underlying3 (hval 0 3 v0 rfl rfl) h0;obtain⟨A1,n1,c1,rfl⟩:=okWide_slice underlying22 (hval 1 22 v1 rfl rfl);have hk1:=h1;obtain⟨fuel1,hf1⟩:=h1;obtain⟨b1,o1,l1,rd1,hs1,hm1,hc1,hn1⟩:=Qlc (j:=1) (by simpa [Value.cells] using hf1) hz rfl rfl
 obtain⟨cs2,rfl,hsz2⟩:=okWide_struct underlying86 (hval 2 86 v2 rfl rfl);rw[QlS] at hsz2;have hk2:=h2;obtain⟨fuel2,hf2⟩:=h2;obtain⟨m2,n2,sa2,sb2,so2,sc2,S2,hcs2,rs2,hS2,hmm2,hnn2⟩:=QoV (cs:=cs2.toList) (by simpa using hsz2) (by simpa [Value.cells] using hf2) (fun y hy=>NY (List.all_eq_true.1 hz y (DataW.weights_mem_each (j:=2) rfl rfl y hy)))
 obtain rfl:cs2=#[.int .u64 m2,.int .u64 n2,.slice sa2 S2.length sc2]:=by cases cs2;simp_all
 clear hA0 hval0;simp only[List.append_nil,List.nil_append] at hW';have hlt1:∀x∈p1,x.block<W.heap.size:=fun x hx=>by simpa using hW'.lt x (by simp[hx])
 have hlt2:∀x∈p2,x.block<W.heap.size:=fun x hx=>by simpa using hW'.lt x (by simp[hx])
 have HT:Tb W:=⟨tab2 hL⟩;have HR:Tr W:=⟨tab1 hL,tab0 hL⟩;refine(QbR W HT HR a0 A1 b1 o1 n1 c1 l1 rd1 (by omega) m2 n2 hmm2 hnn2 sa2 sb2 so2 sc2 S2 rs2 (by unfold maxLen;omega)).mono fun e W' ⟨he,hb⟩=> ?_
 subst he;have hsh:=trodAll_cons_mk (shut_int underlying3 w0) (trodAll_cons_mk (Below.trod laidOut (by kernel_rfl) (NY (by kernel_rfl)) hk1 hb hlt1) (trodAll_cons_mk (Below.trod laidOut (by kernel_rfl) (NY (by kernel_rfl)) hk2 hb hlt2) trodAll_mk0))
 simp only[List.append_nil,List.nil_append] at hsh;exact⟨_,rfl,_,_,_,[],p1++(p2),[],hW',trodAll_cons_mk (shut_bool underlying4 _) trodAll_mk0,hsh,rfl,hb.frame _,fun h=>by cases h⟩
theorem Qor:joinedFacts prog 8 Tryz.f8 (OpenSpec.ofChange Rows.wholeCompleteSpec).bare Rows.wholeCompleteRow=true:=by
 unfold joinedFacts
 repeat' (with_reducible refine Bool.and_eq_true_iff.2 ⟨?_,?_⟩)
 all_goals (as_aux_lemma=>kernel_rfl)
theorem QpG(f:FuncId)(fn:Func)(hf:Tryz.pinned.checked.prog.funcNamed "massif/massiftop.WholeComplete" = some f)(hfn:Tryz.pinned.checked.prog.funcs[f]? = some fn) :
  false=Tryz.pinned.checked.prog.looks [] ∧ ∀(j:Nat) t,fn.params[j]? = some t->Tryz.pinned.checked.prog.wantsStandIn t=false:=by
 obtain rfl:f=8:=Ic ((show prog.funcNamed "massif/massiftop.WholeComplete" = some 8 by kernel_rfl).symm.trans hf) |>.symm
 obtain rfl:fn=Tryz.f8:=(Ic (func8.symm.trans hfn)).symm;refine⟨by kernel_rfl,fun j t ht=> ?_⟩
 rw[Tryz.params8] at ht;have hj:j<3:=by have:=(Array.getElem?_eq_some_iff.1 ht).1;simpa using this
 match j,hj,ht with
 | 0,_,ht=>have e:some 3=some t:=ht;cases e;exact(show prog.wantsStandIn 3=false by kernel_rfl)
 | 1,_,ht=>have e:some 22=some t:=ht;cases e;exact(show prog.wantsStandIn 22=false by kernel_rfl)
 | 2,_,ht=>have e:some 86=some t:=ht;cases e;exact(show prog.wantsStandIn 86=false by kernel_rfl)
theorem said:Rows.WholeCompleteSaid :=
 OpenClaim.holds_of_cond 8 Tryz.f8 rfl rfl rfl rfl rfl rfl rfl ⟨rfl,rfl,rfl,rfl,rfl⟩ rfl rfl rfl rfl rfl (by as_aux_lemma=>kernel_rfl) func8 Qor
  (NY (by as_aux_lemma=>kernel_rfl)) (by unfold Func.isWrapper;first|(rw[Lm (by decide +kernel)];kernel_rfl)|(rw[Ld (by decide +kernel)];exact⟨rfl,rfl⟩))
  (fun os started H enc _ F=>by rw[OpenClaim.pre_eq_preRow];exact QoH os started H enc F)
end wholeComplete
end Go.Proofs.YtoblgjledefdbaaGreatDoor
