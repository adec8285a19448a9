/- Own work. -/
import Derived.Test.YtoblgjledefdbaaGreatDoorQt17
set_option maxRecDepth 100000
set_option maxHeartbeats 8000000
namespace Go.Proofs.YtoblgjledefdbaaGreatDoor
open Go.RowKit
attribute [local go_sem ↓] Go.wp_at_zero Go.wp_at_succ
open Go.Proofs.Tryz
section
attribute [local go_sem ↓] St.UY
theorem Qjw{n m:Int}(h1:1<=m):Int.tmod (Int.tmod n m+m) m=n%m:=by
 have h2:=Int.tmod_lt_of_pos n (by omega:0<m)
 have h3 : -m<Int.tmod n m:=Int.lt_tmod_of_pos n (by omega)
 have e:=Int.tmod_add_mul_tdiv n m;rw[Int.tmod_eq_emod_of_nonneg (by omega)]
 rw[show n%m=(Int.tmod n m+m*Int.tdiv n m)%m by rw[e]]
 rw[Int.add_mul_emod_self_left,Int.add_emod_right]
theorem Qdx(w:World)(n m:Int)(h1:1<=m)(h2:m<=100)(r:Int)(hr:n%m=r) :
  Rf 32 #[.int .i64 n,.int .i64 m] w (.int .i64 r):=by
 obtain⟨u,hu⟩:=Ze (Int.tmod n m);have h3:=Qjw (n:=n) h1;have h4:=Int.tmod_lt_of_pos n (by omega:0<m)
 have h5 : -m<Int.tmod n m:=Int.lt_tmod_of_pos n (by omega)
 rw[hu] at h3 h4 h5;rw[hr] at h3;have hw:IntKind.i64.wrap (u+m)=u+m:=by rw[Lq];omega
 obtain⟨v,hv⟩:=Ze (u+m);rw[hv] at h3 hw;have xB:IntKind.i64.wrap u=u:=by rw[Lq];omega
 have xC:IntKind.i64.wrap r=r:=by
  have:=Int.emod_nonneg n (by omega:m≠0)
  have:=Int.emod_lt_of_pos n (by omega:0<m)
  rw[Lq];omega
 have hm:¬m=0:=by omega
 have xA:(m == 0)=false:=by simpa using hm
 clear h4 h5 hr h1 h2
 go_enter func32,ntmps32;go_wp2
 go_ret
 exact⟨rfl,rfl⟩
def OpdQ(w:World)(v:Value)(T:List (Nat×BA))(K:LB)(x:BA)(u:Bool)(n:Nat)(e:Ending)(w':World):Prop :=
 ∃p a K2 D,e= .returned (.tuple #[Pq p,Pq a])∧Jw w w' a p D (St.sA 4 (itL 4 K2)) K2 v T∧Fq0 K x u K2∧St.Qt 134217728 D∧St.Ext 4 (itL 4 K2) D.L∧D.acts<=n+6
section
variable {w W W1:World} {a p i n m:Nat} {v:Value} {x:BA} {K:LB} {T:List (Nat×BA)} {D:St.DV} {S:St.SV} {u:Bool}
theorem QgI(w W:World)(ht:Tb w)(h:Jdw w W p D v T)(hF:Fs K x u n D)(hn:n<=100000)(ao:OA)(b off c:Nat)(ks:List Bool)(hr:St.RdL w ao b off ks)(hkl:ks.length<=140737488355328) :
  Calls prog 34 #[Pq p,.slice ao ks.length c] W (OpdQ w v T K x u n):=by
 have xC:∀W p D,Jdw w W p D v T->Fs K x u n D->St.Qf 134217728 D -> ∃D',(Calls prog 12 #[Pq p,.agg #[.int .i64 0,.int .i64 0,.slice none 0 0]] W fun e w'=>e= .returned (.tuple #[])∧Jdw w w' p D' v T)∧(∀W,Jdw w W p D' v T->Calls prog 11 #[Pq p,.int .i64 4] W fun e w'=> ∃a,e= .returned (.tuple #[Pq a,.int .i64 0])∧OpdQ w v T K x u n (.returned (.tuple #[Pq p,Pq a])) w'):=fun W p D h hF hq=>by
  obtain⟨g1,g2⟩:=hF.lay hq 0 0 [];have g3:(St.YM D 0 0 []).fk=0:=by
   unfold St.YM;rw[Le (by rw[hq.down];exact L5),Le (by omega)]
  obtain⟨D1,y1,y2,y3⟩:=g1.opn g2
  rcases y1 with ⟨K2,hK2,o1,o2,o3⟩|⟨o1,_⟩
  ·refine⟨_,h.lay 0 0 (by omega) none 0 0 0 [] (St.Uw _ _ _ _) (by decide) (fun h0=>absurd h0 (by decide)),fun W hW=>(hW.open ht (g1.rm (by omega)) 4 o1).mono fun e w' z=> ?_⟩
   obtain⟨a,z1,z2,_⟩:=z;exact⟨a,z1,p,a,K2,D1,rfl,z2,hK2,o2.qt (y3 g3),o3,y2.acts⟩
  ·exact absurd g3 o1
 have xE:=h.below;have xB:=Qc (h.down D.down rfl)
 cases hd:D.down with
 | true=>
  obtain⟨g1,g2⟩:=hF.fall ks;obtain⟨F,xD⟩:=Ze (St.aft ks D.L 0);rw[xD] at g1 g2;obtain⟨fn,xF⟩:=Ze F.length;obtain⟨kl,xA⟩:=Ze ks.length;have xG:Hid (Calls prog 17 #[Pq p,.slice ao kl c] W fun e w'=> ∃fa fc,e= .returned (.slice fa fn fc)∧Hid (∃fb,St.RdF w' fa fb 0 F∧Jdw w w' p D v T)):=by
   have:=h.after ao b off c ks (hr.next xE) (by omega) F xD
   rw[xA,xF] at this;exact this.mono fun e w' z=>by
    obtain⟨fa,fb,fc,z1,z2,z3⟩:=z;exact⟨fa,fc,z1,fb,z2,z3⟩
  have xH:Hid (∀W fa fc,(Hid (∃fb,St.RdF W fa fb 0 F∧Jdw w W p D v T))->Calls prog 16 #[.int .i64 134217728,.slice fa fn fc] W fun e w'=> ∃p2 D',e= .returned (.tuple #[Pq p2,.int .i64 0])∧(Calls prog 12 #[Pq p2,.agg #[.int .i64 0,.int .i64 0,.slice none 0 0]] w' fun e w''=>e= .returned (.tuple #[])∧Jdw w w'' p2 D' v T)∧(∀W,Jdw w W p2 D' v T->Calls prog 11 #[Pq p2,.int .i64 4] W fun e w'=> ∃a,e= .returned (.tuple #[Pq a,.int .i64 0])∧OpdQ w v T K x u n (.returned (.tuple #[Pq p2,Pq a])) w')):=fun W fa fc hP=>by
   obtain⟨fb,q1,q2⟩:=hP.out;have:=q2.reopen 134217728 (by decide) fa fb fc F q1 g1
   rw[xF] at this;refine this.mono fun e w' z=> ?_
   obtain⟨p2,z1,z2⟩:=z;obtain⟨D',k1,k2⟩:=xC w' p2 _ z2 (g2.mono (Ln _)) g1.qf;exact⟨p2,D',z1,k1,k2⟩
  rw[hd] at xB;rw[xA];clear h hF hr hkl xC xE hd g1 g2 xD xF xA ht
  go_enter func34,ntmps34
  go_wp2_with (first
   | (go_at_call 15;(with_reducible refine xB.out.mono ?_);rintro e wa ⟨rfl,rfl⟩)
   | (go_at_call 17;(with_reducible refine xG.out.mono ?_);rintro e w1 ⟨fa,fc,rfl,t1⟩)
   | (go_at_call 16;(with_reducible refine(xH.out _ _ _ t1).mono ?_);rintro e w2 ⟨p2,D',rfl,k1,k2⟩;have K1:=Qc k1;have K2:=Qc k2;clear k1 k2)
   | (go_at_call 12;(with_reducible refine K1.out.mono ?_);rintro e w3 ⟨rfl,t3⟩)
   | (go_at_call 11;(with_reducible refine(K2.out _ t3).mono ?_);rintro e w4 ⟨a,rfl,t4⟩))
  go_ret2
  exact t4
 | false=>
  have hq:St.Qf 134217728 D:=by
   rcases hF.st with e|e
   ·exact e
   ·rw[hd] at e;cases e
  obtain⟨D',k1,k2⟩:=xC W p D h hF hq;have K1:=Qc k1;have K2:=Qc k2;obtain⟨kl,xA⟩:=Ze ks.length;rw[hd] at xB;rw[xA];clear h hF hr hkl xC xE hd xA ht hq k1 k2
  go_enter func34,ntmps34
  go_wp2_with (first
   | (go_at_call 15;(with_reducible refine xB.out.mono ?_);rintro e wa ⟨rfl,rfl⟩)
   | (go_at_call 12;(with_reducible refine K1.out.mono ?_);rintro e w3 ⟨rfl,t3⟩)
   | (go_at_call 11;(with_reducible refine(K2.out _ t3).mono ?_);rintro e w4 ⟨a,rfl,t4⟩))
  go_ret2
  exact t4
end
def selI(xs:LB)(i:Nat):LB:=(xs.take i).filter fun s=>decide (s.size<=3000)
theorem QlS{xs:LB}{i:Nat}(hi:i<xs.length)(hs:(xs.getD i ByteArray.empty).size<=3000):selI xs (i+1)=selI xs i++[xs.getD i ByteArray.empty]:=by
 rw[Ld,Lk hi] at hs ⊢;unfold selI;rw[LM hi,List.filter_append]
 congr 1
 simpa using hs
theorem Qoa{xs:LB}{i:Nat}(hi:i<xs.length)(hs:¬(xs.getD i ByteArray.empty).size<=3000):selI xs (i+1)=selI xs i:=by
 rw[Ld,Lk hi] at hs;unfold selI;rw[LM hi,List.filter_append];have:List.filter (fun s=>decide (s.size<=3000)) [xs[i]]=[]:=by simpa using hs
 rw[this,LU]
def LsT(w W:World)(a p:Nat)(v:Value)(k i:Nat)(K:LB)(D:St.DV):Prop :=
 Jl w W a p D (St.sA k (itL k K)) K v K∧K.length<=i∧(∀s∈K,s.size<=3000)∧St.Qt 134217728 D∧St.Ext k (itL k K) D.L∧D.acts<=6+6*i∧1<=k∧k<=32
theorem Qpz{k:Nat}{K:LB}(k1:1<=k)(k2:k<=32)(h1:K.length<=101)(h2:∀s∈K,s.size<=3000):Fit k 134217728 3000 K :=
 ⟨k1,k2,by decide,by omega,h2,by omega,by decide⟩
theorem Qnj{K:LB}{x:BA}{c:Nat}(h2:∀s∈K,s.size<=c)(hx:x.size<=c):∀s∈K++[x],s.size<=c:=fun s hs=>by
 rcases List.mem_append.1 hs with e|e
 ·exact h2 s e
 ·rw[Ij] at e;subst e;exact hx
section
variable {w W W1:World} {a p i k:Nat} {v:Value} {K:LB} {D:St.DV}
theorem LsT.own(h:LsT w W a p v k i K D):Qh W w.heap.size v K:=h.1.own
theorem LsT.below(h:LsT w W a p v k i K D):Bl w W:=h.1.nl.below
theorem LsT.keep(h:LsT w W a p v k i K D):LsT w W a p v k (i+1) K D:=by
 obtain⟨h1,h2,h3,h4,h5,h6,h7⟩:=h;exact⟨h1,by omega,h3,h4,h5,by omega,h7⟩
theorem LsT.one(h:LsT w W a p v k i K D)(ht:Tb w)(hi:i<100)(x:BA)(hx:x.size<=3000) :
  ∃D',Calls prog 14 #[Pq a,.slice (Zp W.heap.size) 1 1] (W.alloc (.cells #[.string x] 9)) (fun e w'=>e= .returned (.tuple #[.int .i64 1,.int .i64 0])∧Jl w w' a p D' (St.sA k (itL k (K++[x]))) (K++[x]) v K) ∧
   ∀W' v',Jl w W' a p D' (St.sA k (itL k (K++[x]))) (K++[x]) v' (K++[x])->LsT w W' a p v' k (i+1) (K++[x]) D':=by
 obtain⟨h1,h2,h3,h4,h5,h6,k1,k2⟩:=h;have hs:=Qnj h3 hx;have hl:(K++[x]).length=K.length+1:=by simp
 have hf:=Qpz (K:=K++[x]) k1 k2 (by omega) hs
 obtain⟨D',a1,a2,a3,a4,a5⟩:=QoI [x] K D hf h4 h5 (by simp only[List.length_cons,List.length_nil];omega)
 refine⟨D',?_,fun W' v' hJ=>⟨hJ,by omega,hs,a2,a3,by rw[a4];simp only[List.length_cons,List.length_nil];omega,k1,k2⟩⟩
 exact h1.append ht (JW hf.init) (bal (Lb _ _) _) _ W.heap.size 1 1 [x] (Ux W x (by omega)) (by decide) (fun _=> .inr (La _)) a5 1 0 a1
end
def StoQ(w:World)(k:Nat)(xs:LB)(e:Ending)(w':World):Prop :=
 ∃p a v i D,e= .returned (.tuple #[Pq p,Pq a,v])∧i<=100∧i<=xs.length∧(i=100∨i=xs.length)∧LsT w w' a p v k i (selI xs i) D
theorem QgX(w:World)(ht:Tb w)(k:Nat)(k1:1<=k)(k2:k<=32)(ao:OA)(b off len cap:Nat)(xs:LB)(hr:RdS w ao b off len xs)(hmx:len<=9223372036854775807) :
  Calls prog 37 #[.int .i64 k,.slice ao len cap] w (StoQ w k xs):=by
 obtain⟨D0,o1,o2,o3,o4⟩:=QkT (k:=k) (R:=134217728) k1 k2;have xM:=hr.hl;obtain⟨r,xR⟩:=Ze (min len 100);have xL:r<=100∧r<=len∧(r=100∨r=len):=by omega
 have HN:Hid (Calls prog 10 #[.int .i64 134217728] w fun e w'=> ∃p,e= .returned (Pq p)∧Dw w w' p (St.UR 134217728)):=Qk4 w 134217728 (by decide)
 have HO:Hid (∀W p,Dw w W p (St.UR 134217728)->Calls prog 11 #[Pq p,.int .i64 k] W fun e w'=> ∃a,e= .returned (.tuple #[Pq a,.int .i64 0])∧LsT w w' a p (.slice none 0 0) k 0 [] D0):=fun W p h=>(h.open ht (QlF 8 (by decide)) k o1).mono fun e w' z=>by
  obtain⟨a,z1,z2,_⟩:=z;exact⟨a,z1,z2.jn,La _,(fun s hs=>by cases hs),o2,o3,by omega,k1,k2⟩
 have HR:=Qc hr;have xN:=Qc ht;have xG:=Qc xM;have xB:=hr.ptr;clear o1 o2 o3 o4 ht hr xR k1 k2 xM
 go_enter func37,ntmps37
 go_upto_region 7 with (first
  | (go_at_call 10;(with_reducible refine HN.out.mono ?_);rintro e w1 ⟨p,rfl,t1⟩)
  | (go_at_call 11;(with_reducible refine(HO.out _ _ t1).mono ?_);rintro e w2 ⟨a,rfl,t2⟩))
 have xI:=Qc t2;clear HN HO t1 t2
 go_loopg [10,11] r (fun g v x wr=> ∃(i:Nat) (D:St.DV),i<=r∧g=r-i∧x= .int .i64 i∧Hid (LsT w wr a p v k i (selI xs i) D))
 case atStart=>go_light;exact⟨0,D0,Ln _,rfl,rfl,xI⟩
 case round=>
  clear xI;obtain⟨i,D,hi,rfl,rfl,HS⟩:=hrel;obtain⟨va,vn,vc,rfl⟩:=YE HS.out.own
  by_cases hlt:i<r
  ·have hz:(i:Int)<(len:Int):=by omega
   have xS:(i:Int)<100:=by omega
   obtain rfl:=xB (by omega)
   have hB:=HS.out.below;have xE:i<xs.length:=by have:=xG.out;omega
   obtain⟨s,hs⟩:=Ze (xs.getD i ByteArray.empty);have HC:Hid (∀W,Bl w W->W.cell? ⟨b,off+i,none⟩=some (.string s)):=fun W hW=>by
    have:=(HR.out.next hW (La _)).at (k:=i) (by omega)
    rw[hs] at this;exact this
   have ew:IntKind.i64.wrap ((i:Int)+1)=(i:Int)+1:=by rw[Lq];omega
   have c0:=HC.out wr hB
   by_cases hg:s.size<=3000
   ·have xP:¬(3000:Int)<(s.size:Int):=by omega
    have xC:selI xs (i+1)=selI xs i++[s]:=by rw[QlS xE (by rw[hs];exact hg),hs]
    have xF:=Qc xC;obtain⟨D',xJ,xK⟩:=HS.out.one xN.out (by omega) s hg
    have xQ:=HS.out.2.1;have xH:=Qc xJ;have xD:=Qc xK;generalize selI xs i=K at *;have xA:Hid (∀W1,Jl w W1 a p D' (St.sA k (itL k (K++[s]))) (K++[s]) (.slice va vn vc) K->W1.cell? ⟨b,off+i,none⟩=some (.string s) ∧ ∃ao n cap w5,(Builtin.append_ #[22,22] 22 #[.slice va vn vc,.slice (Zp W1.heap.size) 1 1]).run prog (W1.alloc (.cells #[.string s] 9))= .ok (.slice ao n cap) w5∧LsT w w5 a p (.slice ao n cap) k (i+1) (K++[s]) D'):=fun W1 hJ=>by
     refine⟨HC.out W1 hJ.nl.below,?_⟩
     obtain⟨v',w5,q1,q2⟩:=hJ.app (bal (Lb _ _) (.cells #[.string s] 9)) 22 ⟨W1.heap.size,0,none⟩ 1 s (St.Qeb W1 _ _) (by omega)
     obtain⟨ao,n,cap,rfl⟩:=YE q2.own;exact⟨ao,n,cap,w5,q1,xD.out w5 _ q2⟩
    clear xJ xK hB hg HC xD HS hs xC xQ xE
    go_wp2_with (go_at_call 14;(with_reducible refine xH.out.mono ?_);rintro e w4 ⟨rfl,t4⟩;obtain⟨c4,ea,en,ec,w5,h5,t5⟩:=xA.out w4 t4;have ha:=St.O1 h5;have T5:=Qc t5;clear xH xA c0 t4 t5 h5)
    go_roundg (r-(i+1))
    case rel=>go_light;exact⟨i+1,D',by omega,rfl,by go_num,by rw[xF.out];exact T5⟩
    case measure=>go_light;omega
   ·have xP:(3000:Int)<(s.size:Int):=by omega
    have xD:Hid (LsT w wr a p (.slice va vn vc) k (i+1) (selI xs (i+1)) D):=by
     rw[Qoa xE (by rw[hs];exact hg)]
     exact HS.out.keep
    clear hB hg HC HS hs xE;go_wp2
    go_roundg (r-(i+1))
    case rel=>go_light;exact⟨i+1,D,by omega,rfl,by go_num,xD⟩
    case measure=>go_light;omega
  ·obtain rfl:i=r:=by omega
   have xO:¬((i:Int)<(len:Int))∨(((i:Int)<(len:Int)) ∧ ¬(i:Int)<100):=by omega
   have HE:Hid (StoQ w k xs (.returned (.tuple #[Pq p,Pq a,.slice va vn vc])) wr):=⟨p,a,_,i,D,rfl,by omega,by rw[xG.out];omega,by rw[xG.out];omega,HS.out⟩
   clear HS hlt hi xB HR
   rcases xO with hz|⟨hz,xS⟩
   all_goals
    go_wp2
    go_ret3
    exact HE.out
theorem Qoz{w9 w10:World}{x y:Value}{T:Nat}(v:Below (w9.alloc (.cells #[x,y] T)).heap.size (w9.alloc (.cells #[x,y] T)) w10):(w10.alloc (.cells #[x,y] T)).cell? ⟨w9.heap.size,0,none⟩=some x∧(w10.alloc (.cells #[x,y] T)).cell? ⟨w9.heap.size,1,none⟩=some y:=by
 have k0:=(Qa v (bal (Lb _ _) (.cells #[x,y] T))).block w9.heap.size (by simp)
 rw[LC] at k0;exact⟨by rw[cell_of_row _ _ 0 _ _ (0,0) k0];rfl,by rw[cell_of_row _ _ 1 _ _ (0,0) k0];rfl⟩
theorem Qif(w:World)(ht:Tb w)(hT:Tr w):Zr 31 #[] w (.bool true):=by
 obtain⟨W0,xA⟩:=Ze (w.alloc (.cells #[.string ⟨#[97]⟩] 9));have xB:Bl w W0:=by rw[<-xA];exact bal (Lb _ _) _
 have xJ:RdS W0 (Zp w.heap.size) w.heap.size 0 1 [⟨#[97]⟩]:=by rw[<-xA];exact Ux w _ (by decide)
 obtain⟨rt,xC⟩:=Ze (rtD 8 [⟨#[97]⟩] 1);have HS:Hid (Calls prog 37 #[.int .i64 8,.slice (Zp w.heap.size) 1 1] W0 fun e w'=> ∃p a va vc,e= .returned (.tuple #[Pq p,Pq a,.slice va 1 vc])∧Hid (Bl w w')∧(Calls prog 20 #[Pq a,.int .u64 1] w' fun e w''=>e= .returned (.tuple #[.agg #[.int .u64 1,.string rt],.int .i64 0])∧Bl w' w'') ∧ ∀W,Bl w' W->Calls prog 21 #[.int .i64 8,.slice va 1 vc,.int .u64 1] W fun e w''=>e= .returned (.tuple #[.agg #[.int .u64 1,.string rt],.int .i64 0])∧Bl W w''):=by
  refine(QgX W0 (ht.next xB) 8 (by decide) (by decide) _ _ _ _ 1 _ xJ (by decide)).mono fun e w' z=> ?_
  obtain⟨p,a,v,i,D,z1,z2,z3,z4,z5⟩:=z;obtain rfl:i=1:=by
   have h1:([⟨#[97]⟩]:LB).length=1:=rfl;rw[h1] at z3 z4;omega
  have hK:selI [⟨#[97]⟩] 1=[⟨#[97]⟩]:=rfl;rw[hK] at z5;obtain⟨ao,bb,cc,q1,q2,q3,_⟩:=Ya z5.own (fun s hs=>by rw[Ij] at hs;subst hs;decide)
  subst q1;have xI:=Qa xB z5.below;refine⟨p,a,ao,cc,z1,xI,?_,fun W hW=> ?_⟩
  ·exact z5.1.nl.root (ht.next xB) 1 (La _) rt xC
  ·exact QlM W (hT.next (Qa xI hW)) 8 (by decide) (by decide) ao bb 0 _ cc _ (q2.next hW (La _)) (fun s hs=>by rw[Ij] at hs;subst hs;decide) (by decide) q3 1 (La _) rt (Qc xC)
 have xK:=Qc xA;have xL:(rt.toList == rt.toList)=true:=by simp
 clear xC ht hT xB xJ xA
 go_enter func31,ntmps31
 go_upto_region 1 with (fail)
 go_upto_region 5 with (first
  | ((try rw[xK.out]);go_at_call 37;(with_reducible refine HS.out.mono ?_);rintro e w1 ⟨p,a,va,vc,rfl,xD,xH,xG⟩;have xF:=Qc xH;have xE:=Qc xG;clear xH xG)
  | (go_at_call 20;(with_reducible refine xF.out.mono ?_);rintro e w2 ⟨rfl,u2⟩))
 go_upto_region 6 with (go_at_call 21;(with_reducible refine(xE.out _ (bal u2 _)).mono ?_);rintro e w3 ⟨rfl,u3⟩)
 obtain⟨k1,k2⟩:=Qoz u3;have HB:=Qc (Qa xD.out (bal (Qa (bal u2 (.cells #[.int .u64 1,.string rt] 50)) u3) (.cells #[.int .u64 1,.string rt] 50)));clear u2 u3 xD xF xE HS;go_wp2
 go_ret
 exact⟨rfl,HB.out⟩
end
structure FaV where
 at_:Int
 kind:Int
 ka:OA
 kb:Nat
 ko:Nat
 kc:Nat
 keep:List Bool
 op:Bool
structure RdFa(w:World)(ao:OA)(b off len:Nat)(l:Nat->FaV):Prop where
 ptr:0<len->ao=some ⟨b,off,none⟩
 cell:∀j,j<len->w.cell? ⟨b,off+(j*4+0),none⟩=some (.int .i64 (l j).at_)∧w.cell? ⟨b,off+(j*4+1),none⟩=some (.int .i64 (l j).kind)∧w.cell? ⟨b,off+(j*4+2),none⟩=some (.slice (l j).ka (l j).keep.length (l j).kc)∧w.cell? ⟨b,off+(j*4+3),none⟩=some (.bool (l j).op)∧St.RdL w (l j).ka (l j).kb (l j).ko (l j).keep∧(l j).keep.length<=140737488355328
theorem RdFa.four{w W:World}{ao:OA}{b off len:Nat}{l:Nat->FaV}(h:RdFa w ao b off len l)(hb:Bl w W){j:Nat}(hj:j<len){a:Nat}(ha:off+j*4=a) :
  W.cell? ⟨b,a,none⟩=some (.int .i64 (l j).at_)∧W.cell? ⟨b,a+1,none⟩=some (.int .i64 (l j).kind)∧W.cell? ⟨b,a+2,none⟩=some (.slice (l j).ka (l j).keep.length (l j).kc)∧W.cell? ⟨b,a+3,none⟩=some (.bool (l j).op):=by
 obtain⟨h0,h1,h2,h3,_⟩:=h.cell j hj;have xA:b<w.heap.size:=Lo _ _ h0;subst ha;exact⟨(hb.cell (p:=⟨b,_,none⟩) xA).trans h0,(hb.cell (p:=⟨b,_,none⟩) xA).trans h1,(hb.cell (p:=⟨b,_,none⟩) xA).trans h2,(hb.cell (p:=⟨b,_,none⟩) xA).trans h3⟩
def Tl4(K:LB)(T:List (Nat×BA)):Prop := ∀c∈T,c.1<=K.length∧rtD 4 K c.1=c.2
variable{K K2:LB}{T:List (Nat×BA)}{r x:BA}
theorem Tl4.ext(h:Tl4 K T)(xs:LB):Tl4 (K++xs) T:=fun c hc=>by
 obtain⟨h1,h2⟩:=h c hc;refine⟨by rw[Lc];omega,?_⟩
 rw[<-h2];unfold rtD;rw[Lu h1]
theorem Tl4.fn{u:Bool}(h:Tl4 K T)(hf:Fq0 K x u K2):Tl4 K2 T:=by
 rcases hf with rfl|⟨_,rfl⟩
 ·exact h
 ·exact h.ext [x]
theorem Tl4.snoc(h:Tl4 K T){n:Nat}(hn:K.length=n)(hr:rtD 4 K n=r):Tl4 K (T++[(n,r)]):=fun c hc=>by
 rcases List.mem_append.1 hc with e|e
 ·exact h c e
 ·rw[Ij] at e;subst e;exact⟨NE hn.symm,hr⟩
def LtS(w W:World)(a p:Nat)(v:Value)(i:Nat)(K:LB)(T:List (Nat×BA))(D:St.DV):Prop :=
 Jw w W a p D (St.sA 4 (itL 4 K)) K v T∧K.length<=i∧(∀s∈K,s.size<=3000)∧St.Qt 134217728 D∧St.Ext 4 (itL 4 K) D.L∧D.acts<=6+30*i∧Tl4 K T∧T.length<=2*i
def LtF(w W:World)(a p:Nat)(v:Value)(i:Nat)(K:LB)(T:List (Nat×BA))(D:St.DV)(fr:Bool):Prop :=
 Jw w W a p D (St.sA 4 (itL 4 K)) K v T∧K.length<=i∧(∀s∈K,s.size<=3000)∧St.Qf 134217728 D∧St.Ext 4 (itL 4 K) D.L∧D.acts<=6+30*i∧Tl4 K T∧T.length<=2*i∧(fr=true->D.fk=0)
def LtG(w W:World)(a p:Nat)(v:Value)(i m t:Nat)(K:LB)(x:BA)(u:Bool)(T:List (Nat×BA))(D:St.DV)(S:St.SV)(fr:Bool):Prop :=
 Jw w W a p D S K v T∧Fs K x u m D∧K.length<=i+1∧(u=true->K.length<=i)∧Tl4 K T∧T.length<=t∧(S.ends.length=K.length∧S.k=4)∧(fr=true->u=false∧St.Qt 134217728 D∧St.Ext 4 (itL 4 K) D.L∧S=St.sA 4 (itL 4 K))
def LtM(w W:World)(p:Nat)(v:Value)(x:BA)(i m t:Nat):Prop :=
 ∃K u T D,Jdw w W p D v T∧Fs K x u m D∧K.length<=i+1∧(u=true->K.length<=i)∧Tl4 K T∧T.length<=t
def LtP(w W:World)(p:Nat)(v:Value)(x:BA)(i m t:Nat):Prop :=
 ∃K u T D,Jdw w W p D v T∧Fs K x u m D∧K.length<=i+1∧(u=true->K.length<=i)∧Tl4 K T∧T.length<=t∧St.Qf 134217728 D
section
variable {w W W1:World} {a p i m t:Nat} {v:Value} {x:BA} {K:LB} {T:List (Nat×BA)} {D:St.DV} {S:St.SV} {u fr:Bool}
theorem LtS.below(h:LtS w W a p v i K T D):Bl w W:=h.1.nl.below
theorem LtS.f(h:LtS w W a p v i K T D)(fr:Bool):LtF w W a p v i K T D fr:=by
 obtain⟨h1,h2,h3,h4,h5,h6,h7,h8⟩:=h;exact⟨h1,h2,h3,h4.qf,h5,h6,h7,h8,fun _=>h4.fk⟩
theorem LtS.keep(h:LtS w W a p v i K T D):LtS w W a p v (i+1) K T D:=by
 obtain⟨h1,h2,h3,h4,h5,h6,h7,h8⟩:=h;exact⟨h1,by omega,h3,h4,h5,by omega,h7,by omega⟩
theorem LtF.below(h:LtF w W a p v i K T D fr):Bl w W:=h.1.nl.below
theorem LtS.lay(h:LtS w W a p v i K T D)(ht:Tb w)(hb:Bl W W1)(fa fk:Int)(f1:1<=fa)(f2:fa<=8)(f3:1<=fk)(f4:fk<=5)(ao:OA)(b off c:Nat)(ks:List Bool)(hr:St.RdL w ao b off ks)(hkl:ks.length<=140737488355328) :
  Calls prog 12 #[Pq p,.agg #[.int .i64 fa,.int .i64 fk,.slice ao ks.length c]] W1 fun e w'=>e= .returned (.tuple #[])∧LtF w w' a p v i K T (St.YM D fa fk ks) false:=by
 obtain⟨h1,h2,h3,h4,h5,h6,h7,h8⟩:=h;have xA:=h1.next hb;obtain⟨q1,q2,q3,q4,q5⟩:=St.QqA h4.qf fa fk ks f1 ⟨f3,f4⟩;exact(xA.lay2 ht fa fk (by omega) ao b off c ks (hr.next xA.nl.below) hkl (fun h0=>hr.lt h0)).mono fun e w' z=>⟨z.1,z.2,h2,h3,q1,by rw[q2];exact h5,by rw[q3];exact h6,h7,h8,fun h=>by cases h⟩
theorem LtF.append(h:LtF w W a p v i K T D fr)(ht:Tb w)(hi:i<30)(hx:x.size<=3000) :
  Calls prog 14 #[Pq a,.slice (Zp W.heap.size) 1 1] (W.alloc (.cells #[.string x] 9)) fun e w'=> ∃y K' u D' S',e= .returned y∧LtG w w' a p v i (12+30*i) (2*i) K' x u T D' S' fr:=by
 obtain⟨h1,h2,h3,h4,h5,h6,h7,h8,h9⟩:=h;have hf:=OO (K:=K) (by omega) h3
 have hl:(K++[x]).length=K.length+1:=by simp
 obtain⟨D',a1,ak,a2⟩:=Qpq (n:=6+30*i) (by omega) h3 hx h4 h5 h6 (by omega)
 rcases a2 with ⟨b1,b2,b3,b4⟩|⟨e,b0,bk,b1,b2⟩
 ·have hs:=Qaj h3 hx;refine(h1.append ht (JW hf) (bal (Lb _ _) _) _ W.heap.size 1 1 [x] (Ux W x (by omega)) (by decide) (fun _=> .inr (La _)) a1 1 0 b1).mono fun e w' z=>⟨_,K++[x],false,D',_,z.1,z.2,QoM (by omega) hs hx b2 b3 (by omega),by omega,(fun h=>by cases h),h7.ext [x],h8,⟨JW (OO (by omega) hs),rfl⟩,fun hfr=>⟨rfl,b2.qt (ak (h9 hfr)),b3,rfl⟩⟩
 ·refine(h1.append ht (JW hf) (bal (Lb _ _) _) _ W.heap.size 1 1 [x] (Ux W x (by omega)) (by decide) (fun _=> .inr (La _)) a1 0 e b1).mono fun e w' z=>⟨_,K,true,D',_,z.1,z.2,b2.mono (by omega),by omega,(fun _=>h2),h7,h8,⟨JW hf,rfl⟩,fun hfr=>absurd (h9 hfr) bk⟩
theorem LtG.below(h:LtG w W a p v i m t K x u T D S fr):Bl w W:=h.1.nl.below
theorem LtG.next(h:LtG w W a p v i m t K x u T D S fr)(hb:Bl W W1):LtG w W1 a p v i m t K x u T D S fr:=⟨h.1.next hb,h.2⟩
theorem LtG.size(h:LtG w W a p v i m t K x u T D S fr)(n:Nat)(hn:K.length=n):Calls prog 33 #[Pq a] W fun e w'=>e= .returned (.tuple #[.int .u64 n,.int .i64 0])∧LtG w w' a p v i m t K x u T D S fr :=
 (h.1.nl.size n (by rw[h.2.2.2.2.2.2.1.1];exact hn)).mono fun e w' z=>⟨z.1,h.next z.2⟩
theorem LtG.root(h:LtG w W a p v i m t K x u T D S fr)(ht:Tb w)(n:Nat)(hn:n<=K.length)(r:BA)(hr:rtD 4 K n=r):Calls prog 20 #[Pq a,.int .u64 n] W fun e w'=>e= .returned (.tuple #[.agg #[.int .u64 n,.string r],.int .i64 0])∧LtG w w' a p v i m t K x u T D S fr :=
 (h.1.nl.root ht n hn r (by rw[h.2.2.2.2.2.2.1.2];exact hr)).mono fun e w' z=>⟨z.1,h.next z.2⟩
theorem LtG.tell(h:LtG w W a p v i m t K x u T D S fr)(ht1:t<=1000)(n:Nat)(r:BA)(hn:K.length=n)(hr:rtD 4 K n=r) :
  ∃v' w',(Builtin.append_ #[75,75] 75 #[v,.slice (some ⟨W.heap.size+1,0,none⟩) 1 1]).run prog ((W.alloc (.cells #[.int .u64 n,.string r] 50)).alloc (.cells #[.int .u64 n,.string r] 50))= .ok v' w'∧LtG w w' a p v' i m (t+1) K x u (T++[(n,r)]) D S fr:=by
 obtain⟨h1,h2,h3,h4,h5,h6,h7⟩:=h;obtain⟨v',w',q1,q2⟩:=h1.app (bal (bal (Lb _ _) (.cells #[.int .u64 n,.string r] 50)) (.cells #[.int .u64 n,.string r] 50)) 75 ⟨W.heap.size+1,0,none⟩ 1 (n,r) (fun j c hj=>by
  have hk:=LC (W.alloc (.cells #[.int .u64 n,.string r] 50)) (.cells #[.int .u64 n,.string r] 50);rw[Ng] at hk;rw[show(⟨W.heap.size+1,0,none⟩:Addr).add j=⟨W.heap.size+1,j,none⟩ by rw[Addr.add_mid,Ll],cell_of_row _ _ j _ _ (0,0) hk]
  match j,hj with
  | 0,hj=>exact hj
  | 1,hj=>exact hj) (by omega)
 exact⟨v',w',q1,q2,h2,h3,h4,h5.snoc hn hr,by rw[Lc];simp;omega,h7⟩
theorem LtG.slice(h:LtG w W a p v i m t K x u T D S fr):∃ao n cap,v= .slice ao n cap:=by
 obtain⟨ao,b,cap,q,_⟩:=Qed h.1.own;exact⟨ao,_,cap,q⟩
theorem LtS.slice(h:LtS w W a p v i K T D):∃ao cap,v= .slice ao T.length cap:=by
 obtain⟨ao,b,cap,q,_⟩:=Qed h.1.own;exact⟨ao,cap,q⟩
theorem LtG.tm(h:LtG w W a p v i m t K x u T D S fr):LtM w W p v x i m t:=by
 obtain⟨h1,h2,h3,h4,h5,h6,_⟩:=h;exact⟨K,u,T,D,h1.jdw,h2,h3,h4,h5,h6⟩
theorem LtG.tp(h:LtG w W a p v i m t K x u T D S true):LtP w W p v x i m t:=by
 obtain⟨h1,h2,h3,h4,h5,h6,_,h7⟩:=h;exact⟨K,u,T,D,h1.jdw,h2,h3,h4,h5,h6,(h7 rfl).2.1.qf⟩
theorem LtG.down(h:LtG w W a p v i m t K x u T D S true):Rf 15 #[Pq p] W (.bool false):=by
 obtain⟨h1,_,_,_,_,_,_,h7⟩:=h;exact(h1.jdw.down false (h7 rfl).2.1.down).mono fun e w' z=>⟨z.1,z.2.symm⟩
theorem LtG.ts(h:LtG w W a p v i (12+30*i) (2*i+1) K x u T D S true):LtS w W a p v (i+1) K T D:=by
 obtain⟨h1,h2,h3,h4,h5,h6,_,h7⟩:=h;obtain⟨_,e2,e3,e4⟩:=h7 rfl;subst e4;exact⟨h1,h3,h2.sz,e2,e3,by have:=h2.acts;omega,h5,by omega⟩
theorem LtM.below(h:LtM w W p v x i m t):Bl w W:=by
 obtain⟨K,u,T,D,h1,_⟩:=h;exact h1.below
theorem LtP.below(h:LtP w W p v x i m t):Bl w W:=by
 obtain⟨K,u,T,D,h1,_⟩:=h;exact h1.below
theorem LtP.next(h:LtP w W p v x i m t)(hb:Bl W W1):LtP w W1 p v x i m t:=by
 obtain⟨K,u,T,D,h1,h2⟩:=h;exact⟨K,u,T,D,h1.next hb,h2⟩
theorem LtP.lay(h:LtP w W p v x i m t)(fa fk:Int)(f2:fa<=8)(ao:OA)(b off c:Nat)(ks:List Bool)(hr:St.RdL w ao b off ks)(hkl:ks.length<=140737488355328) :
  Calls prog 12 #[Pq p,.agg #[.int .i64 fa,.int .i64 fk,.slice ao ks.length c]] W fun e w'=>e= .returned (.tuple #[])∧LtP w w' p v x i m t:=by
 obtain⟨K,u,T,D,h1,h2,h3,h4,h5,h6,h7⟩:=h;obtain⟨g1,g2⟩:=h2.lay h7 fa fk ks;exact(h1.lay fa fk (by omega) ao b off c ks (hr.next h1.below) hkl (fun h0=>hr.lt h0)).mono fun e w' z=>⟨z.1,K,u,T,_,z.2,g1,h3,h4,h5,h6,g2⟩
theorem LtP.open(h:LtP w W p v x i m t)(ht:Tb w)(hm:m<=100000)(hi:i<30) :
  Calls prog 11 #[Pq p,.int .i64 4] W fun e w'=>(∃a K T D S,e= .returned (.tuple #[Pq a,.int .i64 0])∧LtG w w' a p v i (m+6) t K x false T D S false)∨(∃e0:Int,e0≠0∧e= .returned (.tuple #[.pointer none,.int .i64 e0])∧LtM w w' p v x i (m+6) t):=by
 obtain⟨K,u,T,D,h1,h2,h3,h4,h5,h6,h7⟩:=h;obtain⟨D',y1,y2,y3⟩:=h2.opn h7;have xA:=h2.rm (by omega)
 rcases y1 with ⟨K2,hK,o1,o2,o3⟩|⟨_,e0,oz,o1⟩
 ·obtain⟨k1,k2,k3⟩:=hK.ok h2.len h2.sz h2.sx;have hk:K2.length<=i+1:=by
   rcases hK with rfl|⟨e,rfl⟩
   ·exact h3
   ·have:=h4 e;rw[Lc];simp;omega
  exact(h1.open ht xA 4 o1).mono fun e w' z=>by
   obtain⟨a,z1,z2,_⟩:=z;exact .inl ⟨a,K2,T,D',_,z1,z2,QoM (by omega) k3 h2.sx o2 o3 y2.acts,hk,(fun h=>by cases h),h5.fn hK,h6,⟨JW (OO (by omega) k3),rfl⟩,fun h=>by cases h⟩
 ·exact(h1.open_no ht xA 4 e0 o1).mono fun e w' z=> .inr ⟨e0,oz,z.1,K,u,T,D',z.2,y2,h3,h4,h5,h6⟩
def LtOr(w w':World)(p:Nat)(v:Value)(x:BA)(i m t:Nat)(y:Value)(e0:Int):Prop :=
 (∃a K T D S,y=Pq a∧e0=0∧LtG w w' a p v i m t K x false T D S false)∨(y= .pointer none∧e0≠0∧LtM w w' p v x i m t)
theorem LtP.open2(h:LtP w W p v x i m t)(ht:Tb w)(hm:m<=100000)(hi:i<30) :
  Calls prog 11 #[Pq p,.int .i64 4] W fun e w'=> ∃y e0,e= .returned (.tuple #[y,.int .i64 e0])∧LtOr w w' p v x i (m+6) t y e0 :=
 (h.open ht hm hi).mono fun e w' z=>by
  rcases z with ⟨a,K,T,D,S,z1,z2⟩|⟨e0,z0,z1,z2⟩
  ·exact⟨_,_,z1,.inl ⟨a,K,T,D,S,rfl,rfl,z2⟩⟩
  ·exact⟨_,_,z1,.inr ⟨rfl,z0,z2⟩⟩
theorem LtM.opened(h:LtM w W p v x i (24+30*i) (2*i+2))(ht:Tb w)(hi:i<30)(ao:OA)(b off c:Nat)(ks:List Bool)(hr:St.RdL w ao b off ks)(hkl:ks.length<=140737488355328) :
  Calls prog 34 #[Pq p,.slice ao ks.length c] W fun e w'=> ∃p' a' K T D,e= .returned (.tuple #[Pq p',Pq a'])∧LtS w w' a' p' v (i+1) K T D:=by
 obtain⟨K,u,T,D,h1,h2,h3,h4,h5,h6⟩:=h;refine(QgI w W ht h1 h2 (by omega) ao b off c ks hr hkl).mono fun e w' z=> ?_
 obtain⟨p',a',K2,D',z1,z2,z3,z4,z5,z6⟩:=z;obtain⟨_,_,q⟩:=z3.ok h2.len h2.sz h2.sx;refine⟨p',a',K2,T,D',z1,z2,?_,q,z4,z5,by omega,h5.fn z3,by omega⟩
 rcases z3 with rfl|⟨e,rfl⟩
 ·exact h3
 ·have:=h4 e;rw[Lc];simp;omega
theorem LtM.mono{m' t':Nat}(h:LtM w W p v x i m t)(hm:m<=m')(ht:t<=t'):LtM w W p v x i m' t':=by
 obtain⟨K,u,T,D,h1,h2,h3,h4,h5,h6⟩:=h;exact⟨K,u,T,D,h1,h2.mono hm,h3,h4,h5,by omega⟩
end
section
variable {w W W1:World} {a p i:Nat} {v:Value} {K:LB} {T:List (Nat×BA)} {D:St.DV}
theorem LtS.next(h:LtS w W a p v i K T D)(hb:Bl W W1):LtS w W1 a p v i K T D:=⟨h.1.next hb,h.2⟩
theorem QfO{Z Z':World}{t c b d:Nat}{x0 x1 x2 x3 x4 x5:Value}(h:Z.cell? ⟨t,c,none⟩=some x0∧Z.cell? ⟨t,c+1,none⟩=some x1∧Z.cell? ⟨b,0,none⟩=some x2∧Z.cell? ⟨b,1,none⟩=some x3∧Z.cell? ⟨d,0,none⟩=some x4∧Z.cell? ⟨d,1,none⟩=some x5)(hb:Bl Z Z'):Z'.cell? ⟨t,c,none⟩=some x0∧Z'.cell? ⟨t,c+1,none⟩=some x1∧Z'.cell? ⟨b,0,none⟩=some x2∧Z'.cell? ⟨b,1,none⟩=some x3∧Z'.cell? ⟨d,0,none⟩=some x4∧Z'.cell? ⟨d,1,none⟩=some x5:=by
 have k:∀ {b j:Nat} {x:Value},Z.cell? ⟨b,j,none⟩=some x->Z'.cell? ⟨b,j,none⟩=some x:=fun {b j x} h=>(hb.cell (p:=⟨b,j,none⟩) (Lo _ _ h)).trans h
 exact⟨k h.1,k h.2.1,k h.2.2.1,k h.2.2.2.1,k h.2.2.2.2.1,k h.2.2.2.2.2⟩
theorem Qmj{w9 w10:World}{x y:Value}{T:Nat}(v:Below (w9.alloc (.cells #[x,y] T)).heap.size (w9.alloc (.cells #[x,y] T)) w10):w10.cell? ⟨w9.heap.size,0,none⟩=some x∧w10.cell? ⟨w9.heap.size,1,none⟩=some y:=by
 have k0:=v.block w9.heap.size (by simp)
 rw[LC] at k0;exact⟨by rw[cell_of_row _ _ 0 _ _ (0,0) k0];rfl,by rw[cell_of_row _ _ 1 _ _ (0,0) k0];rfl⟩
structure LtE(w W:World)(a n:Nat)(r:BA)(va:OA)(vn tb:Nat):Prop where
 size:Zr 33 #[Pq a] W (.tuple #[.int .u64 n,.int .i64 0])
 root:∀W',Bl W W'->Calls prog 20 #[Pq a,.int .u64 n] W' fun e w'=>e= .returned (.tuple #[.agg #[.int .u64 n,.string r],.int .i64 0])∧Bl W w'
 ptr:0<vn->va=Zp tb
 few:vn<=100
 nn:n<=100
 each:∀j,j<vn -> ∃(m:Nat) (s t:BA),m<=n∧(∀c,j*2=c -> ∀W',Bl W W'->W'.cell? ⟨tb,c,none⟩=some (.int .u64 m)∧W'.cell? ⟨tb,c+1,none⟩=some (.string s)) ∧
  (∀W',Bl W W'->Zr 20 #[Pq a,.int .u64 m] W' (.tuple #[.agg #[.int .u64 m,.string s],.int .i64 0])) ∧
  (∀W',Bl W W'->Zr 35 #[Pq a,.int .u64 m,.int .u64 n] W' (.tuple #[.string t,.int .i64 0])) ∧
  (∀W',Bl W W'->Zr 36 #[.int .i64 4,.agg #[.int .u64 m,.string s],.agg #[.int .u64 n,.string r],.string t] W' (.int .i64 0))
theorem LtS.tail{va:OA}{vn vc:Nat}(h:LtS w W a p (.slice va vn vc) i K T D)(ht:Tb w)(hi:i<=40):∃n r tb,LtE w W a n r va vn tb:=by
 obtain⟨h1,h2,h3,h4,h5,h6,h7,h8⟩:=h;have hf:=OO (K:=K) (by omega) h3
 obtain⟨n,hn⟩:=Ze K.length;obtain⟨r,hr⟩:=Ze (rtD 4 K n);obtain⟨ao,tb,xE,q1,q2,q3,q4⟩:=Qed h1.own;injection q1 with e1 e2 e3
 subst e1 e2 e3;have hw:=h1.nl.below;have hs:=JW hf;obtain⟨U,l1,l2,l3,_⟩:=h1;have xC:∀W',Bl W W'->Lg W' 0 a p U D (St.sA 4 (itL 4 K)) K:=fun W' hb=>l1.next hb
 have xA:∀W',Bl W W'->Tb W':=fun W' hb=>ht.next (Qa hw hb)
 refine⟨n,r,tb,Qc9 W l1 n (by rw[hs];exact hn),fun W' hb=>(Qce W' (xA W' hb) (xC W' hb) n (by omega) r hr).mono fun e w' z=>⟨z.1,Qa hb z.2⟩,q3,by omega,by omega,fun j hj=> ?_⟩
 have xB:T.getD j (0,ByteArray.empty)∈T:=by rw[Ld,Lk hj];exact L8 _
 obtain⟨c1,c2⟩:=h7 _ xB;obtain⟨z1,z2⟩:=q4 j hj;have xD:tb<W.heap.size:=Lo _ _ z1;generalize T.getD j (0,ByteArray.empty)=c at *;obtain⟨m,s⟩:=c;simp only at c1 c2 z1 z2;obtain⟨t,t1,t2⟩:=Qnh (a:=a) (S:=St.sA 4 (itL 4 K)) (L:=K) (show 1<=4 by decide) (show 4<=32 by decide) (by omega) m n (by omega) (by omega) s r c2 hr
 refine⟨m,s,t,by omega,fun c hc W' hb=> ?_,fun W' hb=>Qce W' (xA W' hb) (xC W' hb) m c1 s c2,fun W' hb=>t1 W' p U D (xA W' hb) (xC W' hb),fun W' hb=>t2 W' (xA W' hb)⟩
 subst hc;exact⟨(hb.cell (p:=⟨tb,_,none⟩) xD).trans z1,(hb.cell (p:=⟨tb,_,none⟩) xD).trans z2⟩
end
end Go.Proofs.YtoblgjledefdbaaGreatDoor
