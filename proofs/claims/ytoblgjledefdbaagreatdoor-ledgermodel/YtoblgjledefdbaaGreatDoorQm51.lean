/- Own work. -/
import Derived.Deep.SlicePairs
import Derived.Test.YtoblgjledefdbaaGreatDoorCards
import Derived.Test.YtoblgjledefdbaaGreatDoorTie
import Derived.Deep.DeepHandedRow
import Derived.Lib.LaidTab
import Derived.Stop.LaidErr
import Derived.Test.YtoblgjledefdbaaGreatDoorQm50
set_option maxRecDepth 100000
set_option maxHeartbeats 8000000
namespace Go.Proofs.YtoblgjledefdbaaGreatDoor
open Go.RowKit
attribute [local go_sem ↓] Go.wp_at_zero Go.wp_at_succ
open Go.Proofs.Tryz
section
attribute [local go_sem ↓] St.Qam
theorem Qik(w:World)(ht:Tb w)(k0:Int)(hk:k0<1∨32<k0)(ao:OA)(len cap:Nat)(qo:OA)(qn qc:Nat) :
  Calls prog 5 #[.int .i64 k0,.slice ao len cap,.slice qo qn qc] w fun e w'=>e = .returned (.bool true)∧Below w.heap.size w w':=by
 have HN:Hid (Calls prog 10 #[.int .i64 134217728] w fun e w' => ∃p,e = .returned (.pointer (some ⟨p,0,none⟩))∧Dw w w' p (St.YU 134217728)):=Qf3 w 134217728 (by decide)
 have HO:Hid (∀W p,Dw w W p (St.YU 134217728)->Calls prog 11 #[.pointer (some ⟨p,0,none⟩),.int .i64 k0] W fun e w'=>e = .returned (.tuple #[.pointer none,.int .i64 70])∧Below w.heap.size w w'):=fun W p h=>(h.open_no ht (Qgg 8 (by decide)) k0 70 (Qob hk)).mono fun e w' z=>⟨z.1,z.2.below⟩
 have HA:Hid (∀W,Below w.heap.size w W->Calls prog 9 #[] W fun e w'=>e = .returned (.bool true)∧Below w.heap.size w w'):=fun W hW=>(QbA W (ht.next hW)).mono fun e w' z=>⟨z.1,Qa hW z.2⟩
 clear ht
 rcases hk with h|h
 ·go_enter func5,ntmps5
  go_wp2_with (first
   | (go_at_call 10;(with_reducible refine HN.out.mono ?_);rintro e w1 ⟨p,rfl,t1⟩)
   | (go_at_call 11;(with_reducible refine(HO.out _ _ t1).mono ?_);rintro e w2 ⟨rfl,u2⟩)
   | (go_at_call 9;(with_reducible refine(HA.out _ u2).mono ?_);rintro e w3 ⟨rfl,u3⟩))
  go_ret
  exact⟨rfl,u3⟩
 ·have h' : ¬k0<1:=by omega
  go_enter func5,ntmps5
  go_wp2_with (first
   | (go_at_call 10;(with_reducible refine HN.out.mono ?_);rintro e w1 ⟨p,rfl,t1⟩)
   | (go_at_call 11;(with_reducible refine(HO.out _ _ t1).mono ?_);rintro e w2 ⟨rfl,u2⟩)
   | (go_at_call 9;(with_reducible refine(HA.out _ u2).mono ?_);rintro e w3 ⟨rfl,u3⟩))
  go_ret
  exact⟨rfl,u3⟩
theorem QfZ(w:World)(ht:Tb w)(hT:Tr w)(k:Nat)(k1:1<=k)(k2:k<=32)(ao:OA)(b off len cap:Nat)(xs:LB)(hr:RdS w ao b off len xs)(hsx : ∀s∈xs,s.size<=140737488351232)(hmx:len<=9223372036854775807)
  (qo:OA) (qb qoff qn qc:Nat) (ql:Nat->AsV) (hq:RdAs w qo qb qoff qn ql) (hqm:qn<=9223372036854775807) :
  Calls prog 5 #[.int .i64 (k:Int),.slice ao len cap,.slice qo qn qc] w fun e w'=>e = .returned (.bool true)∧Below w.heap.size w w':=by
 obtain⟨D0,o1,o2,o3,o4⟩:=Qka (k:=k) (R:=134217728) k1 k2;obtain⟨r,xU⟩:=Ze (min len 60);have xT:r<=60∧r<=len∧(r=60∨r=len):=by omega
 have HA:Hid (∀W,Below w.heap.size w W->Calls prog 9 #[] W fun e w'=>e = .returned (.bool true)∧Below w.heap.size w w'):=fun W hW=>(QbA W (ht.next hW)).mono fun e w' z=>⟨z.1,Qa hW z.2⟩
 have HN:Hid (∀W,Below w.heap.size w W->Calls prog 10 #[.int .i64 134217728] W fun e w' => ∃p,e = .returned (.pointer (some ⟨p,0,none⟩))∧Dw w w' p (St.YU 134217728)):=fun W hW=>(Qf3 W 134217728 (by decide)).mono fun e w' z=>by
  obtain⟨p,z1,z2⟩:=z;exact⟨p,z1,z2.base hW⟩
 have HO:Hid (∀W p,Dw w W p (St.YU 134217728)->Calls prog 11 #[.pointer (some ⟨p,0,none⟩),.int .i64 (k:Int)] W fun e w' => ∃a,e = .returned (.tuple #[.pointer (some ⟨a,0,none⟩),.int .i64 0])∧LdT w w' a p (.slice none 0 0) k 0 [] D0):=fun W p h=>(h.open ht (Qgg 8 (by decide)) k o1).mono fun e w' z=>by
  obtain⟨a,z1,z2,_⟩:=z;exact⟨a,z1,z2.jn,La _,(fun s hs=>by cases hs),o2,o3,by omega,k1,k2⟩
 have HR:=Qd hr;have HQ:=Qd hq;have xC:=Qd ht;have xJ:=Qd hT;have xI:=Qd hsx;have xE:=Qd (Lb w.heap.size w);have xD:=hr.ptr;have xR : ¬(k:Int)<1:=by omega
 have xS : ¬(32:Int)<(k:Int):=by omega
 clear o1 o2 o3 o4 ht hT hr hq hsx xU k1 k2
 go_enter func5,ntmps5
 go_upto_region 6 with (first
  | (go_at_call 10;(with_reducible refine(HN.out _ xE.out).mono ?_);rintro e w1 ⟨p,rfl,t1⟩)
  | (go_at_call 11;(with_reducible refine(HO.out _ _ t1).mono ?_);rintro e w2 ⟨a,rfl,t2⟩;have u2:=t2.below)
  | (go_at_call 9;(with_reducible refine(HA.out _ u2).mono ?_);rintro e w3 ⟨rfl,u3⟩))
 clear t1 t2 u2
 go_upto_region 10 with (first
  | (go_at_call 10;(with_reducible refine(HN.out _ u3).mono ?_);rintro e w4 ⟨p4,rfl,t4⟩)
  | (go_at_call 11;(with_reducible refine(HO.out _ _ t4).mono ?_);rintro e w5 ⟨a5,rfl,t5⟩))
 have xH:=Qd t5;clear HA HN HO u3 t4 t5 xE xR xS
 go_loopg [10,11] r (fun g v x wr => ∃(i:Nat) (K:LB) (D:St.DV),i<=r∧g=r - i∧x = .int .i64 (i:Int)∧Hid (LdT w wr a5 p4 v k i K D))
 case atStart=>go_light;exact⟨0,[],D0,Ll _,rfl,rfl,xH⟩
 case round =>
  clear xH;obtain⟨i,K,D,hi,rfl,rfl,HS⟩:=hrel;obtain⟨va,vn,vc,rfl⟩:=YC HS.out.own
  by_cases hlt:i<r
  ·have hz:(i:Int)<(len:Int):=by omega
   have xV:(i:Int)<60:=by omega
   obtain rfl:=xD (by omega)
   have hB:=HS.out.below;have xL:i<xs.length:=by have:=HR.out.hl;omega
   obtain⟨s,hs⟩:=Ze (xs.getD i ByteArray.empty);have xN:s.size<=140737488351232:=xI.out s (by rw[<-hs,Ld,Lh xL];exact L3 _)
   have HC:Hid (∀W,Below w.heap.size w W->W.cell? ⟨b,off+i,none⟩=some (.string s)):=fun W hW=>by
    have:=(HR.out.next hW (La _)).at (k:=i) (by omega)
    rw[hs] at this;exact this
   have ew:IntKind.i64.wrap ((i:Int)+1)=(i:Int)+1:=by rw[Lr];omega
   have c0:=HC.out wr hB;clear hs xL
   by_cases hg:s.size<=1048576
   ·have xQ : ¬(1048576:Int)<(s.size:Int):=by omega
    obtain⟨D',xK,xM⟩:=HS.out.one xC.out (by omega) s hg
    have xA:=Qd xK;have xG:=Qd xM;have xB:Hid (∀W1,Jn w W1 a5 p4 D' (St.sA k (itL k (K++[s]))) (K++[s]) (.slice va vn vc) K->W1.cell? ⟨b,off+i,none⟩=some (.string s) ∧ ∃ao n cap w5,(Builtin.append_ #[22,22] 22 #[.slice va vn vc,.slice (some ⟨W1.heap.size,0,none⟩) 1 1]).run prog (W1.alloc (.cells #[.string s] 9)) = .ok (.slice ao n cap) w5∧LdT w w5 a5 p4 (.slice ao n cap) k (i+1) (K++[s]) D'):=fun W1 hJ=>by
     refine⟨HC.out W1 hJ.nl.below,?_⟩
     obtain⟨v',w5,q1,q2⟩:=hJ.app (bal (Lb _ _) (.cells #[.string s] 9)) 22 ⟨W1.heap.size,0,none⟩ 1 s (St.Qdx W1 _ _) (by have:=HS.out.2.1;omega)
     obtain⟨ao,n,cap,rfl⟩:=YC q2.own;exact⟨ao,n,cap,w5,q1,xG.out w5 _ q2⟩
    clear xK xM hB hg HC xG HS xN
    go_wp2_with (go_at_call 14;(with_reducible refine xA.out.mono ?_);rintro e w4 ⟨rfl,t4⟩;obtain⟨c4,ea,en,ec,w5,h5,t5⟩:=xB.out w4 t4;have ha:=St.Qc6 h5;have T5:=Qd t5;clear xA xB c0 t4 t5 h5)
    go_roundg (r - (i+1))
    case rel=>go_light;exact⟨i+1,K++[s],D',by omega,rfl,by go_num,T5⟩
    case measure=>go_light;omega
   ·have xQ:(1048576:Int)<(s.size:Int):=by omega
    have xA:=Qd (HS.out.long xC.out (by omega) s (by omega) (by omega))
    have xF:Hid (∀W,LdT w W a5 p4 (.slice va vn vc) k (i+1) K D->W.cell? ⟨b,off+i,none⟩=some (.string s)):=fun W h=>HC.out W h.below
    clear hB hg HC HS xN
    go_wp2_with (go_at_call 14;(with_reducible refine xA.out.mono ?_);rintro e w4 ⟨rfl,t4⟩;have c4:=xF.out w4 t4;have T4:=Qd t4;clear xA xF c0 t4)
    go_roundg (r - (i+1))
    case rel=>go_light;exact⟨i+1,K,D,by omega,rfl,by go_num,T4⟩
    case measure=>go_light;omega
  ·obtain rfl:i=r:=by omega
   have xP : ¬((i:Int)<(len:Int))∨(((i:Int)<(len:Int)) ∧ ¬(i:Int)<60):=by omega
   have HM:=Qd (HS.out.models xC.out xJ.out (by omega) qo qb qoff qn qc ql HQ.out hqm)
   have HG:Hid (∀W,LdT w W a5 p4 (.slice va vn vc) k i K D->Calls prog 11 #[.pointer (some ⟨p4,0,none⟩),.int .i64 (k:Int)] W fun e w' => ∃a D',e = .returned (.tuple #[.pointer (some ⟨a,0,none⟩),.int .i64 0])∧LdT w w' a p4 (.slice va vn vc) k (i+1) K D'):=fun W h=>h.again xC.out (by omega)
   have xO:Hid (∀W a D,LdT w W a p4 (.slice va vn vc) k (i+1) K D->Calls prog 23 #[.pointer (some ⟨a,0,none⟩),.int .i64 (k:Int),.slice va vn vc,.slice qo qn qc] W fun e w'=>e = .returned (.bool true)∧Below w.heap.size w w'):=fun W a D h=>(h.models xC.out xJ.out (by omega) qo qb qoff qn qc ql HQ.out hqm).mono fun e w' z=>⟨z.1,z.2.below⟩
   clear HS hlt hi xD HR HQ xI
   rcases xP with hz|⟨hz,xV⟩
   all_goals
    go_wp2_with (first
     | (go_at_call 23;(with_reducible refine HM.out.mono ?_);rintro e w6 ⟨rfl,t6⟩)
     | (go_at_call 11;(with_reducible refine(HG.out _ t6).mono ?_);rintro e w7 ⟨a7,D7,rfl,t7⟩)
     | (go_at_call 23;(with_reducible refine(xO.out _ _ _ t7).mono ?_);rintro e w8 ⟨rfl,t8⟩))
    go_ret
    exact⟨rfl,t8⟩
theorem Qf0(w:World)(ht:Tb w)(hT:Tr w)(k0:Int)(ao:OA)(b off len cap:Nat)(xs:LB)(hr:RdS w ao b off len xs)(hsx : ∀s∈xs,s.size<=140737488351232)(hmx:len<=9223372036854775807)
  (qo:OA) (qb qoff qn qc:Nat) (ql:Nat->AsV) (hq:RdAs w qo qb qoff qn ql) (hqm:qn<=9223372036854775807) :
  Calls prog 5 #[.int .i64 k0,.slice ao len cap,.slice qo qn qc] w fun e w'=>e = .returned (.bool true)∧Below w.heap.size w w':=by
 by_cases hk:1<=k0∧k0<=32
 ·obtain⟨k,rfl⟩ : ∃k:Nat,k0=(k:Int):=⟨k0.toNat,by omega⟩
  exact QfZ w ht hT k (by omega) (by omega) ao b off len cap xs hr hsx hmx qo qb qoff qn qc ql hq hqm
 ·exact Qik w ht k0 (by omega) ao len cap qo qn qc
end
section
open Go.RowKit Go.ChangeShapes Go.WideShapes
theorem QbU:prog.cellsOf 3=1:=by kernel_rfl
theorem Qgl:prog.cellsOf 4=1:=by kernel_rfl
theorem Qgn:prog.cellsOf 31=1:=by kernel_rfl
theorem Qgi:prog.bytesOf 4=1:=by kernel_rfl
theorem Jf{H:Type}{P:Program}{t:TypeId}{d:DataW H}{y:Nat} : ∀ {ds:List (DataW H)},d∈ds->y∈DataW.weights P t d->y∈DataW.weightsAll P t ds
 | [],h,_=>by cases h
 | x::r,h,hy=>by
  simp only[DataW.weightsAll,List.mem_append]
  rcases List.mem_cons.1 h with rfl|h
  ·exact .inl hy
  ·exact .inr (Jf h hy)
theorem Qop{H:Type}{enc:TypeId×Value->H}{W:World}{fuel:Nat}{v:Value}{x:DataW H×List MemPlace}(hf:DataW.trod enc prog W 0 (fun _=>true) true fuel 31 [v]=some x)(hw : ∀y∈DataW.weights prog 31 x.1,y<=reachBytes) :
  ∃(ao:OA) (b off cap:Nat) (ks:List Bool),v = .slice ao ks.length cap∧St.RdL W ao b off ks∧ks.length<=140737488351232:=by
 rcases Go.Deep.open_slice underlying31 hf with ⟨hcs,hx⟩|⟨a,len,cap,m,n,D,Pl,hcs,_,hl,hm,hmm,hx,hcell⟩
 ·simp at hcs;subst hcs;exact⟨none,0,0,0,[],rfl,St.JU _ _ _ _,Ll _⟩
 ·simp at hcs;subst hcs;simp only[if_true] at hmm;have xE:len<=140737488351232:=by
   rw[hx] at hw;have h5:=hw _ (by simp only[DataW.weights,underlying31];exact Nv)
   simp only[List.length_map,List.length_range,Qgi] at h5;unfold reachBytes at h5;omega
  have xC : ∀i,i<len -> ∃b:Bool,W.cell? (a.add i)=some (.bool b):=fun i hi=>by
   obtain⟨xF,h1,h2⟩:=hcell i (by omega)
   rw[Qgl] at h1;obtain⟨_,xA,hc⟩:=World.cells?_some h1
   obtain⟨b,rfl,_⟩:=DataW.trod_bool underlying4 h2;have q:=hc 0 (by decide)
   simp only[Go.Deep.add_add,Nat.mul_one,Nat.add_zero] at q;exact⟨b,by simpa using q⟩
  obtain⟨l,hL⟩:=Go.Deep.choose_lt xC
  by_cases h0:len=0
  ·subst h0;exact⟨some a,0,0,cap,[],rfl,St.JU _ _ _ _,Ll _⟩
  ·obtain⟨b,off,xD⟩:=a;have xB:xD=none:=by simpa [Addr.add] using Im (hL 0 (by omega))
   subst xB;have xA:((List.range len).map l).length=len:=by simp
   refine⟨some ⟨b,off,none⟩,b,off,cap,(List.range len).map l,by rw[xA],⟨fun _=>rfl,fun j hj => ?_⟩,by rw[xA];exact xE⟩
   rw[xA] at hj;have:=hL j hj;rw[Addr.add_mid] at this;rw[this];simp[List.getD_eq_getElem?_getD,hj]
theorem Qgo:prog.cellsOf 68=9:=by kernel_rfl
theorem Qgm:prog.cellsOf 37=3:=by kernel_rfl
theorem QbV:prog.cellsOf 48=1:=by kernel_rfl
theorem Qgr:prog.cellsOf 66=1:=by kernel_rfl
theorem Qgp:prog.cellsOf 22=1:=by kernel_rfl
theorem Qgq:prog.cellsOf 9=1:=by kernel_rfl
theorem Qgk:prog.bytesOf 48=8:=by kernel_rfl
theorem Qgj:prog.bytesOf 9=16:=by kernel_rfl
theorem Qca{a:Int}(h:(Lit.int .u64 a).wf=true) : ∃n:Nat,a=(n:Int)∧n<18446744073709551616:=by
 have:=bounds_u64 h;exact⟨a.toNat,by omega,by omega⟩
theorem Qm5{H:Type}{enc:TypeId×Value->H}{W:World}{fuel:Nat}{v:Value}{x:DataW H×List MemPlace}(hf:DataW.trod enc prog W 0 (fun _=>true) true fuel 66 [v]=some x)(hw : ∀y∈DataW.weights prog 66 x.1,y<=reachBytes) :
  ∃(ao:OA) (b off cap:Nat) (l:List Nat),v = .slice ao l.length cap∧RdU W ao b off l.length l∧l.length<=17592186043904∧(ao=none->cap=0)∧l.length<=cap:=by
 rcases open_ints underlying66 underlying48 QbV hf with ⟨hcs,hx⟩|⟨a,len,cap,zs,hcs,_,hl,hm,hzl,hx,hcell,hws⟩
 ·simp at hcs;subst hcs;exact⟨none,0,0,0,[],rfl,⟨rfl,fun h=>absurd h (Nk 0),fun j v h=>by cases h⟩,Ll _,(fun _=>rfl),La _⟩
 ·simp at hcs;subst hcs;simp only[if_true] at hzl;rw[hx] at hw;have xD:cap<=17592186043904:=by
   have h2:=hw _ (by simp only[DataW.weights,underlying66];exact Nv)
   simp only[lits,List.length_map,List.length_take,List.length_drop,Qgk] at h2;unfold reachBytes at h2;omega
  by_cases h0:len=0
  ·subst h0;exact⟨some a,0,0,cap,[],rfl,⟨rfl,fun h=>absurd h (Nk 0),fun j v h=>by cases h⟩,Ll _,(fun h=>by cases h),Ll _⟩
  ·obtain⟨b,off,xC⟩:=a;have xA:xC=none:=by simpa [Addr.add] using Im (hcell 0 (by omega))
   subst xA;have xE:((zs.take len).map Int.toNat).length=len:=by rw[Nc,Lz];omega
   refine⟨some ⟨b,off,none⟩,b,off,cap,(zs.take len).map Int.toNat,by rw[xE],⟨rfl,fun _=>rfl,fun j v hv => ?_⟩,by omega,(fun h=>by cases h),by omega⟩
   have hj:j<len:=by have:=(List.getElem?_eq_some_iff.1 hv).1;simp at this;omega
   have xB:j<zs.length:=by omega
   have hc:=hcell j xB;rw[Addr.add_mid] at hc;rw[hc];obtain⟨p,hp,_⟩:=Qca (hws zs[j] (L3 _));have e1:zs.getD j 0=(p:Int):=by rw[Ld,Lh xB];exact hp
   rw[e1,<-hv];rw[show Cv.cU ((zs.take len).map Int.toNat)=((zs.take len).map Int.toNat).map (fun n:Nat=>Value.int .u64 (n:Int)) from rfl,Nt,Nt,NC hj,Lh xB,hp];rfl
structure OqV where
 kind:Int
 k:Int
 ia:OA
 ib:Nat
 io:Nat
 ic:Nat
 items:LB
 n:Nat
 m:Nat
 sa:OA
 sb:Nat
 so:Nat
 sc:Nat
 set:List Nat
 fat:Int
 fkd:Int
 ka:OA
 kb:Nat
 ko:Nat
 kc:Nat
 keep:List Bool
structure OqOk(W:World)(o:OqV):Prop where
 it:RdS W o.ia o.ib o.io o.items.length o.items
 its : ∀s∈o.items,s.size<=140737488351232
 itn:o.items.length<=8796093021952
 itc:o.items.length<=o.ic
 ita:o.ia=none->o.ic=0
 n:o.n<18446744073709551616
 m:o.m<18446744073709551616
 st:RdU W o.sa o.sb o.so o.set.length o.set
 stn:o.set.length<=17592186043904
 stc:o.set.length<=o.sc
 sta:o.sa=none->o.sc=0
 kp:St.RdL W o.ka o.kb o.ko o.keep
 kpn:o.keep.length<=140737488351232
def OqV.cells(o:OqV):List Value:=[.int .i64 o.kind,.int .i64 o.k,.slice o.ia o.items.length o.ic,.int .u64 (o.n:Int),.int .u64 (o.m:Int),.slice o.sa o.set.length o.sc,.int .i64 o.fat,.int .i64 o.fkd,.slice o.ka o.keep.length o.kc]
theorem Qd7{H:Type}(l:LB)(s:BA)(hs:s∈l):s.size∈DataW.weightsAll prog 9 (strs (H:=H) l):=by
 induction l with
 | nil=>cases hs
 | cons x r ih =>
  simp only[strs,List.map_cons,DataW.weightsAll,DataW.weights,List.mem_append,List.mem_singleton]
  rcases List.mem_cons.1 hs with rfl|h
  ·left;rw[Np];rfl
  ·right;exact ih h
theorem Qm6{H:Type}{enc:TypeId×Value->H}{W:World}{fuel:Nat}{v:Value}{x:DataW H×List MemPlace}(hf:DataW.trod enc prog W 0 (fun _=>true) true fuel 22 [v]=some x)(hw : ∀y∈DataW.weights prog 22 x.1,y<=reachBytes) :
  ∃(ao:OA) (b off cap:Nat) (ss:LB),v = .slice ao ss.length cap∧RdS W ao b off ss.length ss∧(∀s∈ss,s.size<=140737488351232)∧ss.length<=8796093021952∧(ao=none->cap=0)∧ss.length<=cap:=by
 rcases open_strings underlying22 underlying9 Qgq hf with ⟨hcs,hx⟩|⟨a,len,cap,ss,hcs,_,hl,hm,hzl,hx,hcell,hws⟩
 ·simp at hcs;subst hcs;exact⟨none,0,0,0,[],rfl,⟨rfl,fun h=>absurd h (Nk 0),(fun j v h=>by cases h),(fun s h=>by cases h)⟩,(fun s h=>by cases h),Ll _,(fun _=>rfl),La _⟩
 ·simp at hcs;subst hcs;simp only[if_true] at hzl;rw[hx] at hw;have xD:cap<=8796093021952:=by
   have h2:=hw _ (by simp only[DataW.weights,underlying22];exact Nv)
   simp only[strs,List.length_map,List.length_take,List.length_drop,Qgj] at h2;unfold reachBytes at h2;omega
  have xC : ∀s∈ss.take len,s.size<=140737488351232:=fun s hs =>
   hw s.size (by simp only[DataW.weights,underlying22,List.mem_cons,List.mem_append];exact Or.inr (Or.inl (Qd7 _ s hs)))
  by_cases h0:len=0
  ·subst h0;exact⟨some a,0,0,cap,[],rfl,⟨rfl,fun h=>absurd h (Nk 0),(fun j v h=>by cases h),(fun s h=>by cases h)⟩,(fun s h=>by cases h),Ll _,(fun h=>by cases h),Ll _⟩
  ·obtain⟨b,off,xB⟩:=a;have xA:xB=none:=by simpa [Addr.add] using Im (hcell 0 (by omega))
   subst xA;have xE:(ss.take len).length=len:=by rw[Lz];omega
   refine⟨some ⟨b,off,none⟩,b,off,cap,ss.take len,by rw[xE],⟨rfl,fun _=>rfl,fun j v hv => ?_,fun s hs=>Lu (xC s hs) (by decide)⟩,xC,by omega,(fun h=>by cases h),by omega⟩
   have hj:j<len:=by have:=(List.getElem?_eq_some_iff.1 hv).1;rw[Nc,Lz] at this;omega
   have hc:=hcell j (by omega)
   rw[Addr.add_mid] at hc;rw[hc,<-hv];simp[hj,List.getD_eq_getElem?_getD,List.getElem?_eq_getElem (show j<ss.length by omega)]
theorem Qoo{H:Type}{enc:TypeId×Value->H}{W:World}{fuel:Nat}{v0 v1 v2:Value}{x:DataW H×List MemPlace}(hf:DataW.trod enc prog W 0 (fun _=>true) true fuel 37 [v0,v1,v2]=some x)(hw : ∀y∈DataW.weights prog 37 x.1,y<=reachBytes) :
  ∃(a k:Int) (ao:OA) (b off cap:Nat) (ks:List Bool),v0 = .int .i64 a∧v1 = .int .i64 k∧v2 = .slice ao ks.length cap∧St.RdL W ao b off ks∧ks.length<=140737488351232:=by
 obtain⟨xs,k,hk,xB,_,xA,hg⟩:=DataW.trod_struct underlying37 hf
 match xs,xA with
 | [y0,y1,y2],_ =>
  have g0:=hg 0 _ rfl;have g1:=hg 1 _ rfl;have g2:=hg 2 _ rfl;simp[QbU,Qgn] at g0 g1 g2;obtain⟨z0,e0,f0,_⟩:=DataW.trod_int underlying3 g0;obtain⟨z1,e1,f1,_⟩:=DataW.trod_int underlying3 g1;simp only[List.cons.injEq,and_true] at e0 e1;subst e0 e1;rw[xB] at hw;obtain⟨ao,b,off,cap,ks,rfl,h1,h2⟩:=Qop g2 (fun y hy=>hw y (by
   simp only[DataW.weights,underlying37,List.map_cons,List.map_nil,DataW.weightsEach,List.mem_append];exact Or.inr (Or.inr (Or.inl hy))))
  exact⟨z0,z1,ao,b,off,cap,ks,rfl,rfl,rfl,h1,h2⟩
theorem Qoq{H:Type}{enc:TypeId×Value->H}{W:World}{fuel:Nat}{cs:List Value}{x:DataW H×List MemPlace}(hl:cs.length=9)(hf:DataW.trod enc prog W 0 (fun _=>true) true fuel 68 cs=some x)(hw : ∀y∈DataW.weights prog 68 x.1,y<=reachBytes) :
  ∃o:OqV,cs=o.cells∧OqOk W o:=by
 obtain⟨xs,k,hk,xD,_,xC,hg⟩:=DataW.trod_struct underlying68 hf
 match xs,xC,cs,hl with
 | [y0,y1,y2,y3,y4,y5,y6],_,[v0,v1,v2,v3,v4,v5,v6,v7,v8],_ =>
  have g0:=hg 0 _ rfl;have g1:=hg 1 _ rfl;have g2:=hg 2 _ rfl;have g3:=hg 3 _ rfl;have g4:=hg 4 _ rfl;have g5:=hg 5 _ rfl;have g6:=hg 6 _ rfl;simp[QbU,QbV,Qgr,Qgp,Qgm] at g0 g1 g2 g3 g4 g5 g6;obtain⟨z0,e0,_,_⟩:=DataW.trod_int underlying3 g0;obtain⟨z1,e1,_,_⟩:=DataW.trod_int underlying3 g1;obtain⟨z3,e3,_,w3⟩:=DataW.trod_int underlying48 g3;obtain⟨z4,e4,_,w4⟩:=DataW.trod_int underlying48 g4;simp only[List.cons.injEq,and_true] at e0 e1 e3 e4;subst e0 e1 e3 e4;obtain⟨n3,rfl,xA⟩:=Qca w3;obtain⟨n4,rfl,xB⟩:=Qca w4;rw[xD] at hw;obtain⟨ia,ib,io,ic,is,rfl,i1,i2,i3,i4,i5⟩:=Qm6 g2 (fun y hy=>hw y (by
   simp only[DataW.weights,underlying68,List.map_cons,List.map_nil,DataW.weightsEach,List.mem_append];exact Or.inr (Or.inr (Or.inl hy))))
  obtain⟨sa,sb,so,sc,S,rfl,j1,j2,j3,j4⟩:=Qm5 g5 (fun y hy=>hw y (by
   simp only[DataW.weights,underlying68,List.map_cons,List.map_nil,DataW.weightsEach,List.mem_append];exact Or.inr (Or.inr (Or.inr (Or.inr (Or.inr (Or.inl hy)))))))
  obtain⟨fa,fk,ka,kb,ko,kc,ks,rfl,rfl,rfl,l1,l2⟩:=Qoo g6 (fun y hy=>hw y (by
   simp only[DataW.weights,underlying68,List.map_cons,List.map_nil,DataW.weightsEach,List.mem_append];exact Or.inr (Or.inr (Or.inr (Or.inr (Or.inr (Or.inr (Or.inl hy))))))))
  exact⟨⟨z0,z1,ia,ib,io,ic,is,n3,n4,sa,sb,so,sc,S,fa,fk,ka,kb,ko,kc,ks⟩,rfl,⟨i1,i2,i3,i5,i4,xA,xB,j1,j2,j4,j3,l1,l2⟩⟩
structure RdOq(w:World)(ao:OA)(b off len:Nat)(l:Nat->OqV):Prop where
 ptr:0<len->ao=some ⟨b,off,none⟩
 cell : ∀j,j<len->(∀t,t<9->w.cell? ⟨b,off+(j*9+t),none⟩=(l j).cells[t]?)∧OqOk w (l j)
instance:Inhabited OqV:=⟨⟨0,0,none,0,0,0,[],0,0,none,0,0,0,[],0,0,none,0,0,0,[]⟩⟩
theorem QiN{H:Type}{enc:TypeId×Value->H}{W:World}{fuel:Nat}{ao:OA}{len cap:Nat}{x:DataW H×List MemPlace}{ts:List TypeId}{ds:List (DataW H)}{j:Nat}(hf:DataW.trod enc prog W 0 (fun _=>true) true fuel 56 [.slice ao len cap]=some x)
  (hz:(DataW.weightsEach prog ts ds).all (· <= reachBytes)=true) (hj:ts[j]? = some 56) (hd:ds[j]? = some x.1) :
  ∃(b off:Nat) (l:Nat->OqV),RdOq W ao b off len l∧len<=maxLen∧len<=cap∧(ao=none->cap=0):=by
 rcases Go.Deep.open_slice underlying56 hf with ⟨hcs,hx⟩|⟨a,len',cap',m,n,D,Pl,hcs,_,hl,hm,hmm,hx,hcell⟩
 ·simp at hcs;obtain⟨rfl,rfl,rfl⟩:=hcs;exact⟨0,0,fun _=>default,⟨fun h=>absurd h (Nk 0),fun j hj=>absurd hj (IN j)⟩,Ll _,La _,fun _=>rfl⟩
 ·simp at hcs;obtain⟨rfl,rfl,rfl⟩:=hcs;simp only[if_true] at hmm;have xF:=List.all_eq_true.1 hz;have xA : ∀y∈DataW.weights prog 56 x.1,y<=reachBytes:=fun y hy=>NK (xF y (DataW.weights_mem_each hj hd y hy))
  rw[hx] at xA;have xC : ∀i,i<len -> ∃o:OqV,(∀t,t<9->W.cell? (a.add (i*9+t))=o.cells[t]?)∧OqOk W o:=fun i hi=>by
   obtain⟨xG,h1,h2⟩:=hcell i (by omega)
   rw[Qgo] at h1;obtain⟨_,xD,hc⟩:=World.cells?_some h1
   obtain⟨o,rfl,ho⟩:=Qoq xD h2 (fun y hy=>xA y (by
    simp only[DataW.weights,underlying56,List.mem_cons,List.mem_append];exact Or.inr (Or.inl (Jf (List.mem_map.2 ⟨i,List.mem_range.2 hi,rfl⟩) hy))))
   refine⟨o,fun t ht => ?_,ho⟩
   have q:=hc t ht;simp only[Go.Deep.add_add] at q;exact q
  obtain⟨l,hL⟩:=Go.Deep.choose_lt xC
  by_cases h0:len=0
  ·subst h0;exact⟨0,0,fun _=>default,⟨fun h=>absurd h (Nk 0),fun j hj=>absurd hj (IN j)⟩,Ll _,hl,fun h=>by cases h⟩
  ·obtain⟨b,off,xE⟩:=a;have xB:xE=none:=by
    have:=(hL 0 (by omega)).1 0 (by decide)
    simpa [Addr.add] using Im (this.trans rfl)
   subst xB;refine⟨b,off,l,⟨fun _=>rfl,fun j hj => ?_⟩,Lu hl hm,hl,fun h=>by cases h⟩
   have:=hL j hj;simp only[Addr.add_mid] at this;exact this
theorem RdOq.as{w:World}{ao:OA}{b off len:Nat}{l:Nat->OqV}(h:RdOq w ao b off len l):RdAs w ao b off len (fun j=>⟨(l j).n,(l j).sa,(l j).sb,(l j).so,(l j).sc,(l j).set⟩) :=
 ⟨h.ptr,fun j hj=>by
  obtain⟨h1,h2⟩:=h.cell j hj;exact⟨(h1 3 (by decide)).trans rfl,(h1 5 (by decide)).trans rfl,h2.st,by have:=h2.stn;unfold maxLen;simp only;omega,h2.n⟩⟩
end
namespace ledgerModel
open Go.ChangeShapes Go.WideShapes Go.ChangeAt Go.RowKit
theorem own:ownKnob prog.godebug=none:=by kernel_rfl
theorem laidOut:laidOutB prog=true:=by kernel_rfl
theorem QlJ:prog.cellsOf 9=1:=by kernel_rfl
theorem QlH:prog.bytesOf 9=16:=by kernel_rfl
theorem Qd8{H:Type}(l:LB)(s:BA)(hs:s∈l):s.size∈DataW.weightsAll prog 9 (strs (H:=H) l):=by
 induction l with
 | nil=>cases hs
 | cons x r ih =>
  simp only[strs,List.map_cons,DataW.weightsAll,DataW.weights,List.mem_append,List.mem_singleton]
  rcases List.mem_cons.1 hs with rfl|h
  ·left;rw[Np];rfl
  ·right;exact ih h
theorem Qk2{H:Type}{enc:TypeId×Value->H}{W:World}{fuel:Nat}{ao:OA}{len cap:Nat}{x:DataW H×List MemPlace}{ts:List TypeId}{ds:List (DataW H)}{j:Nat}(hf:DataW.trod enc prog W 0 (fun _=>true) true fuel 22 [.slice ao len cap]=some x)
  (hz:(DataW.weightsEach prog ts ds).all (· <= reachBytes)=true) (hj:ts[j]? = some 22) (hd:ds[j]? = some x.1) :
  ∃(b off:Nat) (ss:LB),RdS W ao b off len ss∧(∀s∈ss,s.size<=140737488351232)∧len<=8796093021952∧len<=cap∧(ao=none->cap=0):=by
 rcases open_strings underlying22 underlying9 QlJ hf with ⟨hcs,hx⟩|⟨a,len',cap',ss,hcs,_,hl,hm,hzl,hx,hcell,hws⟩
 ·simp at hcs;obtain⟨rfl,rfl,rfl⟩:=hcs;exact⟨0,0,[],⟨rfl,fun h=>absurd h (Nk 0),(fun j v h=>by cases h),(fun s h=>by cases h)⟩,(fun s h=>by cases h),Ll _,La _,fun _=>rfl⟩
 ·simp at hcs;obtain⟨rfl,rfl,rfl⟩:=hcs;simp only[if_true] at hzl;have xE:cap<=8796093021952:=by
   have xC:=hd;rw[hx] at xC;have h1:=List.all_eq_true.1 hz _ (DataW.weights_mem_each hj xC _ (by simp only[DataW.weights,underlying22];exact Nv))
   have h2:=NK h1;simp only[strs,List.length_map,List.length_take,List.length_drop,QlH] at h2;unfold reachBytes at h2;omega
  have xD : ∀s∈ss.take len,s.size<=140737488351232:=fun s hs=>by
   rw[hx] at hd;have:=List.all_eq_true.1 hz _ (DataW.weights_mem_each hj hd s.size (by simp only[DataW.weights,underlying22,List.mem_cons,List.mem_append];exact Or.inr (Or.inl (Qd8 _ s hs))))
   exact NK this
  by_cases h0:len=0
  ·subst h0;exact⟨0,0,[],⟨rfl,fun h=>absurd h (Nk 0),(fun j v h=>by cases h),(fun s h=>by cases h)⟩,(fun s h=>by cases h),Ll _,hl,fun h=>by cases h⟩
  ·obtain⟨b,off,xB⟩:=a;have xA:xB=none:=by simpa [Addr.add] using Im (hcell 0 (by omega))
   subst xA;refine⟨b,off,ss.take len,⟨by rw[Lz];omega,fun _=>rfl,fun j v hv => ?_,fun s hs=>Lu (xD s hs) (by decide)⟩,xD,by omega,hl,fun h=>by cases h⟩
   have hj:j<len:=by have:=(List.getElem?_eq_some_iff.1 hv).1;rw[Nc,Lz] at this;omega
   have hc:=hcell j (by omega)
   rw[Addr.add_mid] at hc;rw[hc,<-hv];simp[hj,List.getD_eq_getElem?_getD,List.getElem?_eq_getElem (show j<ss.length by omega)]
theorem Qco:prog.cellsOf 403=64:=by kernel_rfl
theorem QhO:prog.cellsOf 346=8:=by kernel_rfl
theorem Qaj:prog.cellsOf 110=1:=by kernel_rfl
theorem Qav{W:World}{name:String}{l:List Int}{g:Nat}(h:Lib.TabIs prog W name .u32 l)(hg:prog.globalNamed name=some g):W.rangeAt g 0 (cW l):=fun j v hv=>by
 have hj:j<l.length:=by have:=(List.getElem?_eq_some_iff.1 hv).1;rwa [Qo] at this
 have hc:=h.cell hg j hj;rw[Lm,hc,<-hv];simp[cW,List.getD_eq_getElem?_getD,List.getElem?_eq_getElem hj]
theorem gn0:prog.globalNamed "massif/massifref01.first" = some 0:=by kernel_rfl
theorem gt0:(prog.globals[0]?).map (·.type)=some 346:=by kernel_rfl
theorem tab0{W:World}(h0:laidMetH prog Rows.ledgerModelRow.laid W):W.rangeAt 0 0 (cW IV):=by
 exact Qav (Lib.tabIs_of_head (zs:=IV) gn0 gt0 underlying346 underlying110 Qaj QhO h0) gn0
theorem gn1:prog.globalNamed "massif/massifref01.rounds" = some 1:=by kernel_rfl
theorem gt1:(prog.globals[1]?).map (·.type)=some 403:=by kernel_rfl
theorem tab1{W:World}(h0:laidMetH prog Rows.ledgerModelRow.laid W):W.rangeAt 1 0 (cW RS):=by
 have h1:laidMet prog [("massif/massifref01.rounds",Rows.laid_massif_massifref01_rounds),("massif/sha.rounds",Rows.laid_massif_sha_rounds)] W:=laidMet.tail (h0:laidMet prog Rows.ledgerModelRow.laid W)
 exact Qav (Lib.tabIs_of_head (zs:=RS) gn1 gt1 underlying403 underlying110 Qaj Qco h1) gn1
theorem gn2:prog.globalNamed "massif/sha.rounds" = some 3:=by kernel_rfl
theorem gt2:(prog.globals[3]?).map (·.type)=some 403:=by kernel_rfl
theorem tab2{W:World}(h0:laidMetH prog Rows.ledgerModelRow.laid W):W.rangeAt 3 0 (cW RS):=by
 have h1:laidMet prog [("massif/massifref01.rounds",Rows.laid_massif_massifref01_rounds),("massif/sha.rounds",Rows.laid_massif_sha_rounds)] W:=laidMet.tail (h0:laidMet prog Rows.ledgerModelRow.laid W)
 have h2:laidMet prog [("massif/sha.rounds",Rows.laid_massif_sha_rounds)] W:=laidMet.tail h1
 exact Qav (Lib.tabIs_of_head (zs:=RS) gn2 gt2 underlying403 underlying110 Qaj Qco h2) gn2
def QfV(l:List Int):Obj->Obj
 | .cells _ t frozen => .cells (cW l).toArray t frozen
 | o=>o
def Qcc(w:World):World := { w with heap:=(((w.heap.modify 0 (QfV IV)).modify 1 (QfV RS)).modify 3 (QfV RS)) }
theorem Qj8(os:Os):laidMet prog Rows.ledgerModelRow.laid ((Qcc (World.holding prog os ⟨#[],#[],[]⟩)).forCall (fun _ _=>0) ⟨#[],#[.int .i64 0,.slice none 0 0,.slice none 0 0],[]⟩).memory :=
 laidMet_of_run' 8 (by kernel_rfl) (by kernel_rfl)
theorem Qo8(os:Os){H:Type}(enc:TypeId×Value->H) : ∃places,DataW.whole enc prog ((Qcc (World.holding prog os ⟨#[],#[],[]⟩)).forCall (fun _ _=>0) ⟨#[],#[.int .i64 0,.slice none 0 0,.slice none 0 0],[]⟩).memory Tryz.f5.params.toList Rows.ledgerModelSpec.vars false (#[.int .i64 0,.slice none 0 0,.slice none 0 0]:Array Value).toList 8=some ([.lit (.int .i64 0),.nil,.nil],[],places) :=
 ⟨[],by kernel_rfl⟩
theorem Qoa(os:Os)(started:os.Started)(H:Type)(enc:TypeId×Value->H)(F:Stop.Interp) :
  ReturnsInHanded {} Tryz.checked os 5 .any ((OpenSpec.ofChange Rows.ledgerModelSpec).preRow enc prog Tryz.f5 Rows.ledgerModelRow.domain false Rows.ledgerModelRow.laid) (((OpenSpec.ofChange Rows.ledgerModelSpec).at F).post enc prog Tryz.f5 false true false false):=by
 obtain⟨xE,hx⟩:=Qo8 os enc;refine returnsInHanded_of_row (C:=Tryz.checked) (s:=OpenSpec.ofChange Rows.ledgerModelSpec) own started (by kernel_rfl) func5
  (witness_row_at (enc:=enc) (C:=Tryz.checked) false (Qcc (World.holding prog os ⟨#[],#[],[]⟩)) #[.int .i64 0,.slice none 0 0,.slice none 0 0] rfl (by kernel_rfl) (by kernel_rfl) (by kernel_rfl)
   (OpenSpec.preRow_of_cond 8 hx (by kernel_rfl) (fun k hk=>by cases hk) (by kernel_rfl) (Qj8 os))) ?_
 intro W base args ds gs before hval0 hW0 _ _ hz0 hL _ _
 show Calls prog 5 args W fun e W' => ∃v,e = .returned v∧Rows.ledgerModelSpec.post enc prog Tryz.f5 false true false false W args v W'
 have hW:DataW.Whole enc prog Tryz.f5.params.toList Rows.ledgerModelSpec.vars false W args.toList ds gs before:=hW0;have xA : ∀(j:Nat) t v,Tryz.f5.params[j]? = some t->args[j]? = some v->Value.okWide prog W .any base t v:=hval0;have xB:=hW;obtain⟨p,q,xH,hV,rfl,xX,yB⟩:=hW;have hA:DataW.TrodAll enc prog W 0 (fun _=>true) true Tryz.f5.params.toList args.toList ds p:=xH
 rw[Tryz.params5] at hA xA;obtain⟨v0,yC,d0,xS,p0,q0,xI,rfl,rfl,h0,r0⟩:=trodAll_cons hA;obtain⟨v1,yD,d1,xT,p1,q1,rfl,rfl,rfl,h1,r1⟩:=trodAll_cons r0;obtain⟨v2,yE,d2,xU,p2,q2,rfl,rfl,rfl,h2,r2⟩:=trodAll_cons r1;obtain⟨rfl,rfl,rfl⟩:=trodAll_nil r2;obtain rfl:args=#[v0,v1,v2]:=by cases args;simp_all
 obtain⟨rfl,rfl⟩:=trodVars_none hV;have hz:(DataW.weightsEach prog [3,22,56] [d0,d1,d2]).all (· <= reachBytes)=true:=hz0;clear hz0;obtain⟨a0,rfl,rfl,rfl,w0⟩:=open_int underlying3 (xA 0 3 v0 rfl rfl) h0;obtain⟨A1,n1,c1,rfl⟩:=okWide_slice underlying22 (xA 1 22 v1 rfl rfl);have xM:=h1;obtain⟨xF,xK⟩:=h1;obtain⟨b1,o1,l1,xQ,xP,xY,xV,xZ⟩:=Qk2 (j:=1) (by simpa [Value.cells] using xK) hz rfl rfl
 obtain⟨A2,n2,c2,rfl⟩:=okWide_slice underlying56 (xA 2 56 v2 rfl rfl);have xN:=h2;obtain⟨xG,xL⟩:=h2;obtain⟨b2,o2,l2,xR,xO,xW,yA⟩:=QiN (j:=2) (by simpa [Value.cells] using xL) hz rfl rfl
 clear xH hval0;simp only[List.append_nil,List.nil_append] at xB;have xC : ∀x∈p1,x.block<W.heap.size:=fun x hx=>by simpa using xB.lt x (by simp[hx])
 have xD : ∀x∈p2,x.block<W.heap.size:=fun x hx=>by simpa using xB.lt x (by simp[hx])
 have HT:Tb W:=⟨tab2 hL⟩;have HR:Tr W:=⟨tab1 hL,tab0 hL⟩;refine(Qf0 W HT HR a0 A1 b1 o1 n1 c1 l1 xQ xP (by omega) A2 b2 o2 n2 c2 _ xR.as (by have:=xO;unfold maxLen at this;omega)).mono fun e W' ⟨he,hb⟩ => ?_
 subst he;have xJ:=trodAll_cons_mk (shut_int underlying3 w0) (trodAll_cons_mk (Below.trod laidOut (by kernel_rfl) (NK (by kernel_rfl)) xM hb xC) (trodAll_cons_mk (Below.trod laidOut (by kernel_rfl) (NK (by kernel_rfl)) xN hb xD) trodAll_mk0))
 simp only[List.append_nil,List.nil_append] at xJ;exact⟨_,rfl,_,_,_,[],p1++(p2),[],xB,trodAll_cons_mk (shut_bool underlying4 _) trodAll_mk0,xJ,rfl,hb.frame _,fun h=>by cases h⟩
end ledgerModel
end Go.Proofs.YtoblgjledefdbaaGreatDoor
