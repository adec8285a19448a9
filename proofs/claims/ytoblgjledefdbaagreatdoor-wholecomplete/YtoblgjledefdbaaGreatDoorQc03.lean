/- Own work. -/
import Derived.BigQuiet
import Derived.Test.YtoblgjledefdbaaGreatDoorQc02
set_option maxRecDepth 100000
namespace Go.Proofs.YtoblgjledefdbaaGreatDoor
open Go.RowKit
attribute [local go_sem ↓] Go.wp_at_zero Go.wp_at_succ
open Go.Proofs.Tryz
def cntU(p:Nat->Bool):Nat->Nat
 | 0=>0
 | n+1=>cntU p n+(if p n then 0 else 1)
theorem Qb4{p:Nat->Bool}{n:Nat}(h:cntU p n=0):∀k,k<n->p k=true:=by
 induction n with
 | zero=>intro k hk;omega
 | succ n ih=>
  intro k hk;simp only[cntU] at h
  by_cases hp:p n=true
  ·by_cases e:k=n
   ·rw[e];exact hp
   ·exact ih (by omega) k (by omega)
  ·rw[Ld hp] at h;omega
theorem J5{p q:Nat->Bool}{n:Nat}(h:∀k,k<n->p k=q k):cntU p n=cntU q n:=by
 induction n with
 | zero=>rfl
 | succ n ih=>simp only[cntU];rw[ih (fun k hk=>h k (by omega)),h n (by omega)]
theorem Qa5{p q:Nat->Bool}{i:Nat}(hp:p i=false)(hq:q i=true)(hne:∀k,k≠i->q k=p k):∀n,i<n->cntU q n+1=cntU p n
 | 0,h=>by omega
 | n+1,h=>by
  simp only[cntU]
  by_cases e:i=n
  ·subst e;rw[hp,hq,J5 (fun k hk=>hne k (by omega))]
   simp
  ·have:=Qa5 hp hq hne n (by omega)
   rw[hne n (fun h=>e h.symm)];omega
theorem Qb3(n:Nat):cntU (fun _=>false) n=n:=by
 induction n with
 | zero=>rfl
 | succ n ih=>simp only[cntU,ih];rfl
def QaH(St:Nat->Oper->Prop):Nat->List Oper->Prop
 | _,[]=>True
 | n,o::r=>St n o∧QaH St (n+1) r
theorem Og{St:Nat->Oper->Prop} : ∀ {l:List Oper} {n j:Nat} {o:Oper},QaH St n l->l[j]? = some o->St (n+j) o
 | _::_,n,0,o,h,e=>by simp at e;subst e;exact h.1
 | _::r,n,j+1,o,h,e=>by
  have:=Og (l:=r) (j:=j) h.2 (by simpa using e)
  rw[show n+(j+1)=n+1+j by omega];exact this
 | [],_,_,_,_,e=>by simp at e
theorem Qcv{xs:Array Edge}{p:Edge->Bool}(h:xs.toList.any p=true):∃e,e∈xs∧p e=true:=by
 obtain⟨e,he,hp⟩:=List.any_eq_true.1 h;exact⟨e,by simpa using he,hp⟩
theorem Qbi(a:Act)(d:Nat)(v:Value)(h:d<a.tmps.size):(a.put (some d) v).tmps.getD d undef=v:=by
 simp[Act.put,h]
theorem Uw(a:Act)(d t:Nat)(v:Value)(h:d≠t):(a.put (some d) v).tmps.getD t undef=a.tmps.getD t undef:=by
 simp only[Act.put]
 by_cases ht:t<a.tmps.size
 ·simp[Array.getD,ht,h]
 ·simp[Array.getD,ht]
def Ue(a:Act):List Nat->List Value->Act
 | t::sl,v::vs=>Ue (a.put (some t) v) sl vs
 | _,_=>a
theorem QaB:∀(sl:List Nat) (vs:List Value) (a:Act),(Ue a sl vs).defers=a.defers
 | [],_,_=>rfl
 | _::_,[],_=>rfl
 | t::sl,v::vs,a=>by rw[Ue,QaB sl vs];rfl
theorem Qci:∀(sl:List Nat) (vs:List Value) (a:Act),(Ue a sl vs).tmps.size=a.tmps.size
 | [],_,_=>rfl
 | _::_,[],_=>rfl
 | t::sl,v::vs,a=>by rw[Ue,Qci sl vs];simp[Act.put]
theorem Oc:∀(sl:List Nat) (vs:List Value) (a:Act) (t:Nat),sl.contains t=false->(Ue a sl vs).tmps.getD t undef=a.tmps.getD t undef
 | [],_,_,_,_=>rfl
 | _::_,[],_,_,_=>rfl
 | u::sl,v::vs,a,t,h=>by
  simp only[List.contains_cons,Bool.or_eq_false_iff,beq_eq_false_iff_ne] at h;rw[Ue,Oc sl vs _ t h.2,Uw _ _ _ _ (fun e=>h.1 e.symm)]
theorem Tryz.infoS:(prog.info? 9).map (fun i=>(i.zero,i.size,i.bytes))=some (some (.string ByteArray.empty),1,16):=by kernel_rfl
theorem Uf(w:World)(s:BA)(hs:s.size<=9223372036854775807):RdS (w.alloc (.cells #[.string s] 9)) (Zp w.heap.size) w.heap.size 0 1 [s] :=
 ⟨rfl,fun _=>rfl,Qp w [.string s] 9,fun x hx=>by simp at hx;subst hx;exact hs⟩
def Qg(w:World)(B:Nat)(v:Value)(ss:LB):Prop:=w.ownsRow B 9 1 v ss.length (ss.map Value.string)
theorem QH{w:World}{B:Nat}{v:Value}{ss:LB}(h:Qg w B v ss)(hs:∀s∈ss,s.size<=9223372036854775807):∃ao b cap,v= .slice ao ss.length cap∧RdS w ao b 0 ss.length ss∧ss.length<=cap∧(ao=none->cap=0):=by
 obtain⟨h1,h2⟩:=h
 rcases h2 with ⟨hv,h0⟩|⟨g,cap,cur,rfl,hg,hh,hc1,hc,hsz,ht⟩
 ·have:ss=[]:=List.length_eq_zero_iff.1 h0;subst this;exact⟨none,0,0,by rw[hv];rfl,⟨rfl,fun h=>absurd h (Ns 0),(fun j v h=>by cases h),hs⟩,La _,fun _=>rfl⟩
 ·refine⟨Zp g,g,cap,rfl,⟨rfl,fun _=>rfl,fun j v hj=> ?_,hs⟩,hc1,fun h=>by cases h⟩
  rw[Lo,cell_of_row w g j cur 9 (0,0) hh];rw[<-ht,Nb] at hj
  split at hj
  ·simpa using hj
  ·cases hj
theorem QY(w:World){ops:Array Oper}{rest:List Oper}{o:Oper}{a:Act}{Q:Exit->Act->World->Prop}
  (hg:o.guard=none) (s x:Operand) (hop:o.op=Op.call { callee:=Callee.builtin Builtin.append,args:=#[s,x],argTypes:=#[22,22] })
  (B:Nat) (v:Value) (L:LB) (hs:a.eval s=v) (hown:Qg w B v L) (ao:OA) (b off cap:Nat) (M:LB) (hx:a.eval x= .slice ao M.length cap) (hr:RdS w ao b off M.length M) (hn:ao=none->cap=0)
  (hlen:L.length+M.length<=8796093022208) (hB:B<=w.heap.size)
  (hK:∀v' w',Qg w' B v' (L++M)->Below B w w'->wpList prog ops Q rest (a.put o.dst v') w'):wpList prog ops Q (o::rest) a w:=by
 obtain⟨i0,hi,hz0,hz1,hz2⟩:=info_parts Tryz.infoS;have hlt:∀k,v.ownBlock=some k->B<=k:=by
  obtain⟨_,h2⟩:=hown
  rcases h2 with ⟨rfl,_⟩|⟨g,cp,cur,rfl,hg,_⟩
  ·intro k hk;cases hk
  ·intro k hk;cases hk;exact hg
 cases ao with
 | none=>
  obtain rfl:=hn rfl;have hM:M=[]:=by
   cases M with
   | nil=>rfl
   | cons m r=>exact absurd (hr.ptr (by simp)) (by simp)
  subst hM;refine wpList_append_own_none hg s x _ hop B 9 i0 1 underlying22 hi _ _ _ hs hown hx (hK _ w ?_ (Lb _ _))
  rw[Nd];exact hown
 | some ad=>
  have hnews:∀j u,(M.map Value.string)[j]? = some u->w.cell? (ad.add j)=some u:=fun j u hu=>by
   have hj:j<M.length:=by have:=(List.getElem?_eq_some_iff.1 hu).1;rwa [LC] at this
   have:=Ic (hr.ptr (by omega))
   subst this;rw[Addr.add_mid];exact hr.rng j u hu
  refine wpList_append_own w hg s x _ hop B 9 i0 (.string ByteArray.empty) 1 16 underlying22 hi hz0 hz1 hz2 rfl (by decide) _ _ _ hs hown ad M.length cap (M.map Value.string) hx (by simp) hnews (by intro u hu;obtain⟨y,_,rfl⟩:=List.mem_map.1 hu;rfl) (by unfold maxLen;omega) (by omega) hB ?_
  intro v' w' h1 h2 _;refine hK v' w' ?_ ((Lb _ _).grown h2 hB hlt)
  rw[Qg,Le,LL];exact h1
theorem Yf{w:World}{B:Nat}{v:Value}{l:LB}(h:Qg w B v l)(o:Obj):Qg (w.alloc o) B v l:=by
 obtain⟨h1,h2⟩:=h;refine⟨h1,?_⟩
 rcases h2 with h2|⟨g,cap,cur,rfl,hg,hh,r⟩
 ·exact .inl h2
 ·exact .inr ⟨g,cap,cur,rfl,hg,by rw[Below.heap_alloc _ _ _ (Array.getElem?_eq_some_iff.1 hh).1];exact hh,r⟩
theorem Qx{w W:World}{B B':Nat}{v:Value}{l:LB}(h:Qg w B v l)(hb:Below B' w W)(hB:w.heap.size<=B'):Qg W B v l:=by
 obtain⟨h1,h2⟩:=h;refine⟨h1,?_⟩
 rcases h2 with h2|⟨g,cap,cur,rfl,hg,hh,r⟩
 ·exact .inl h2
 ·exact .inr ⟨g,cap,cur,rfl,hg,by rw[hb.block g (Lv (Array.getElem?_eq_some_iff.1 hh).1 hB)];exact hh,r⟩
theorem Qev{w:World}{B:Nat}{v:Value}{l:LB}(h:Qg w B v l)(h0:0<l.length):∃g cap,v= .slice (Zp g) l.length cap∧B<=g∧l.length<=cap∧cap<=maxLen:=by
 obtain⟨h1,h2⟩:=h
 rcases h2 with ⟨_,h2⟩|⟨g,cap,cur,hv,hg,_,hc,hm,_⟩
 ·omega
 ·exact⟨g,cap,hv,hg,hc,hm⟩
theorem UW{w:World}{B g n cap:Nat}{l:LB}(h:Qg w B (.slice (Zp g) n cap) l){j:Nat}(hj:j<l.length):w.cell? ⟨g,j,none⟩=some (.string (l.getD j ByteArray.empty))∧w.frozen? ⟨g,j,none⟩=false:=by
 obtain⟨h1,h2⟩:=h
 rcases h2 with ⟨h2,_⟩|⟨g',cap',cur,hv,hg,hh,hc,hm,hz,ht⟩
 ·cases h2
 ·obtain⟨e1,e2,e3⟩:=Id hv
  cases e1;refine⟨?_,frozen_of_row w g j cur 9 hh⟩
  rw[cell_of_row w g j cur 9 (0,0) hh];have:(cur.toList.take (l.length*1))[j]? = some (.string (l.getD j ByteArray.empty)):=by
   rw[ht];simp[List.getElem?_eq_getElem hj,List.getD_eq_getElem?_getD]
  rw[Ig (by omega)] at this
  simpa using this
theorem Um(w:World)(B:Nat):Qg w B (.slice none 0 0) []:=⟨rfl,.inl ⟨rfl,rfl⟩⟩
namespace Pl
theorem Qe9(n k:Nat)(hn:n<2^64):(bits BinOp.and IntKind.u64 ((n:Int)/2^k) 1 == 1)=decide (n/2^k%2=1):=by
 have e:((n:Int)/2^k)=((n/2^k:Nat):Int):=by simp
 rw[e];have hm:n/2^k<18446744073709551616:=Is (NO _ _) hn
 revert hm
 generalize n/2^k=m;intro hm;have:=bits_and_u64_nat m 1 hm (by decide)
 rw[show(1:Int)=((1:Nat):Int) from rfl,this,IN]
 by_cases h:m%2=1
 ·simp[h]
 ·have:m%2=0:=by omega
  simp[this]
theorem YQ(n k:Nat)(w:World)(hn:n<2^64)(hk:k<64) :
  Calls prog 224 #[.int .u64 n,.int .i64 k] w fun e w'=>e= .returned (.bool (decide (n/2^k%2=1)))∧w'=w:=by
 have hk0:(0:Int)<=(k:Int):=Lh _
 go_enter func224,ntmps224;go_wp2
 go_ret
 refine⟨?_,rfl⟩
 rw[<-Qe9 n k hn]
 rfl
theorem UT(n:Nat)(w:World)(hn:n<2^64) :
  Calls prog 138 #[.int .u64 n] w fun e w'=>e= .returned (.int .i64 (Qv 64 n:Nat))∧w'=w:=by
 go_enter func138,ntmps138;go_wp2
 go_loopg [3,5] 64 (fun g c i wr=> ∃k m:Nat,k<=64∧g=64-k∧i= .int .i64 k∧c= .int .i64 m∧m<=k∧m+Qv (64-k) (n/2^k)=Qv 64 n∧w=wr)
 case atStart=>go_light;exact⟨0,0,Ln _,rfl,rfl,rfl,Ln _,by simp,rfl⟩
 case round=>
  obtain⟨k,m,hk,rfl,rfl,rfl,hm,hs,rfl⟩:=hrel;have hk0:(0:Int)<=(k:Int):=Lh _;have hm0:(0:Int)<=(m:Int):=Lh _;have hm1:(m:Int)<=64:=by omega
  by_cases hlt:k<64
  ·have hk8:(k:Int)<64:=by omega
   have HS:=Qak k n hlt;have HC:=YQ n k w hn hlt
   by_cases hb:n/2^k%2=1
   ·rw[LV hb] at HC
    go_wp2_with (go_at_call 224;refine HC.mono ?_;rintro e w' ⟨rfl,rfl⟩)
    go_roundg (64-(k+1))
    case rel=>go_light;exact⟨k+1,m+1,by omega,rfl,by go_num,by go_num,by omega,by omega,rfl⟩
    case measure=>go_light;omega
   ·rw[Lx hb] at HC
    go_wp2_with (go_at_call 224;refine HC.mono ?_;rintro e w' ⟨rfl,rfl⟩)
    go_roundg (64-(k+1))
    case rel=>go_light;exact⟨k+1,m,by omega,rfl,by go_num,rfl,by omega,by omega,rfl⟩
    case measure=>go_light;omega
  ·obtain rfl:k=64:=by omega
   clear hk hlt;go_wp2
   go_ret
   refine⟨?_,rfl⟩
   rw[<-hs]
   rfl
end Pl
namespace Kp
open Pl (Qv)
theorem JW(n:Nat)(w:World)(hn:n<2^64)(t:Nat)(ht:tr 64 n=t) :
  Calls prog 253 #[.int .u64 n] w fun e w'=>e= .returned (.int .i64 t)∧w'=w:=by
 subst ht
 go_enter func253,ntmps253;go_wp2
 go_loopg [4] 64 (fun g i wr=> ∃k:Nat,k<=64∧g=64-k∧i= .int .i64 k∧k+tr (64-k) (n/2^k)=tr 64 n∧w=wr)
 case atStart=>go_light;exact⟨0,Ln _,rfl,rfl,by simp,rfl⟩
 case round=>
  obtain⟨k,hk,rfl,rfl,hs,rfl⟩:=hrel;have hk0:(0:Int)<=(k:Int):=Lh _
  by_cases hlt:k<64
  ·have hk8:(k:Int)<64:=by omega
   have HC:=Pl.YQ n k w hn hlt;have HS:=Qg6 k n hlt
   by_cases hb:n/2^k%2=1
   ·rw[Lm hb] at HS;rw[LV hb] at HC
    go_wp2_with (go_at_call 224;refine HC.mono ?_;rintro e w' ⟨rfl,rfl⟩)
    go_ret
    refine⟨?_,rfl⟩
    rw[<-hs,HS]
    rfl
   ·rw[Ld hb] at HS;rw[Lx hb] at HC
    go_wp2_with (go_at_call 224;refine HC.mono ?_;rintro e w' ⟨rfl,rfl⟩)
    go_roundg (64-(k+1))
    case rel=>go_light;exact⟨k+1,by omega,rfl,by go_num,by omega,rfl⟩
    case measure=>go_light;omega
  ·obtain rfl:k=64:=by omega
   clear hk hlt;go_wp2
   go_ret
   refine⟨?_,rfl⟩
   rw[<-hs]
   rfl
theorem Qm2(h:Nat)(w:World)(hh:h<64)(p:Nat)(hp:2^h=p) :
  Calls prog 394 #[.int .i64 h] w fun e w'=>e= .returned (.tuple #[.int .u64 p,.bool true])∧w'=w:=by
 have hk0:(0:Int)<=(h:Int):=Lh _;have hk1:(h:Int)<64:=by omega
 have e1:IntKind.u64.wrap ((2:Int)^h)=(p:Int):=by
  have:=Nat.pow_lt_pow_right (a:=2) (by decide) hh
  have e:((2:Int)^h)=(p:Int):=by rw[<-hp];simp
  rw[hp] at this;rw[e,IntKind.wrap_u64];omega
 clear hp
 go_enter func394,ntmps394;go_wp2
 go_ret2
 exact⟨rfl,rfl⟩
theorem Qb8(h:Nat)(w:World)(hh:h<=40)(p:Nat)(hp:2^h=p) :
  Calls prog 331 #[.int .i64 h] w fun e w'=>e= .returned (.int .u64 p)∧w'=w:=by
 have HP:=Qm2 h w (by omega) p hp
 clear hp
 go_enter func331,ntmps331
 go_wp2_with (go_at_call 394;refine HP.mono ?_;rintro e w' ⟨rfl,rfl⟩)
 go_ret
 exact⟨rfl,rfl⟩
theorem Qh1(w:World):Qg (w.alloc (.cells #[] 9)) w.heap.size (.slice (Zp w.heap.size) 0 0) [] :=
 ⟨rfl,.inr ⟨w.heap.size,0,#[],rfl,La _,Lt w _,La _,Ln _,rfl,rfl⟩⟩
theorem Qda(w:World)(s:BA):Qg (w.alloc (.cells #[.string s] 9)) w.heap.size (.slice (Zp w.heap.size) 1 1) [s] :=
 ⟨rfl,.inr ⟨w.heap.size,1,#[.string s],rfl,La _,Lt w _,La _,by unfold maxLen;omega,rfl,rfl⟩⟩
theorem QO{w:World}{B B':Nat}{v:Value}{l:LB}(h:Qg w B v l)(hB:B'<=B):Qg w B' v l:=by
 obtain⟨h1,h2⟩:=h;refine⟨h1,?_⟩
 rcases h2 with h2|⟨g,cap,cur,hv,hg,h3⟩
 ·exact .inl h2
 ·exact .inr ⟨g,cap,cur,hv,by omega,h3⟩
theorem JH(w:World)(ao:OA)(b off cap:Nat)(P:LB)(hr:RdS w ao b off P.length P)(hn:ao=none->cap=0)(hmx:P.length<=8796093022208) :
  Calls prog 158 #[.slice ao P.length cap] w fun e w'=> ∃v,e= .returned v∧Qg w' w.heap.size v P∧Below w.heap.size w w':=by
 have qT:∀(w:World) (a:OA) (n c n' c':Nat),(binOp .eql 22 (.slice a n c) (.slice none n' c')).run prog w= .ok (.bool a.isNone) w:=fun w a n c n' c'=>Lib.run_eql_slice_nil w _ _ a n c n' c' underlying22
 cases ao with
 | none=>
  obtain rfl:=hn rfl;have hP:P=[]:=by
   cases P with
   | nil=>rfl
   | cons m r=>exact absurd (hr.ptr (by simp)) (by simp)
  subst hP;clear hr hmx hn
  go_enter func158,ntmps158;go_wp2
  go_ret
  exact⟨_,rfl,Um w _,Lb _ _⟩
 | some ad=>
  have HR:Hid (∀o,RdS (w.alloc o) (some ad) b off P.length P):=fun o=>hr.next (bal (Lb _ _) o) (La _)
  have HM:=Qd hmx;clear hr hn hmx
  go_enter func158,ntmps158
  go_wp2_with (at_builtin;refine QY _ rfl _ _ rfl w.heap.size _ [] rfl (Qh1 w) (some ad) b off cap P rfl (HR.out _) (fun h=>by cases h) ?c1 ?c2 ?_)
  case c1=>have:=HM.out;simp;omega
  case c2=>simp
  intro v1 w1 h1 hb1;have HX:Hid (Qg w1 w.heap.size v1 P∧Below w.heap.size w w1):=⟨by simpa using h1,(bal (Lb _ _) _).trans hb1⟩
  clear h1 hb1;go_wp2
  go_ret
  exact⟨_,rfl,HX.out.1,HX.out.2⟩
theorem Qi0(w:World)(ao:OA)(len cap:Nat)(hc:len<=cap) :
  Calls prog 332 #[.slice ao len cap] w fun e w'=>e= .returned (.slice ao len len)∧w'=w:=by
 have hc':(len:Int)<=(cap:Int):=by omega
 clear hc
 go_enter func332,ntmps332;go_wp2
 go_ret
 exact⟨rfl,rfl⟩
theorem Oj(w:World){ops:Array Oper}{rest:List Oper}{o:Oper}{a:Act}{Q:Exit->Act->World->Prop}
  (hg:o.guard=none) (s x:Operand) (hop:o.op=Op.call { callee:=Callee.builtin Builtin.append,args:=#[s,x],argTypes:=#[22,22] })
  (ao:OA) (b:Nat) (P:LB) (hs:a.eval s= .slice ao P.length P.length) (hr:RdS w ao b 0 P.length P) (ad:Addr) (d:BA) (hx:a.eval x= .slice (some ad) 1 1) (hc:w.cell? ad=some (.string d))
  (hlen:P.length<=1000)
  (hK:∀v' w',Qg w' w.heap.size v' (P++[d])->Below w.heap.size w w'->wpList prog ops Q rest (a.put o.dst v') w'):wpList prog ops Q (o::rest) a w:=by
 obtain⟨i0,hi,hz0,hz1,hz2⟩:=info_parts Tryz.infoS;have hnews:∀j u,[Value.string d][j]? = some u->w.cell? (ad.add j)=some u:=by
  intro j u hj
  match j,hj with
  | 0,hj=>simp at hj;subst hj;simpa [Addr.add] using hc
 refine wpList_append_grows w hg s x _ hop 9 i0 (.string ByteArray.empty) 1 16 underlying22 hi hz0 hz1 hz2 rfl (by decide) ao P.length P.length (P.map Value.string) hs (fun h=> ?_) (by simp) (fun ad' h j u hu=> ?_) ad 1 1 [.string d] hx rfl hnews (by intro u hu;simp at hu;subst hu;rfl) (by omega) (by unfold maxLen;omega) (by omega) ?_
 ·by_cases h0:0<P.length
  ·have:=hr.ptr h0;rw[h] at this;cases this
  ·omega
 ·have hj:j<P.length:=by have:=(List.getElem?_eq_some_iff.1 hu).1;rwa [LC] at this
  have e:=hr.ptr (by omega)
  rw[h] at e
  cases e;rw[Addr.add_mid];exact hr.rng j u hu
 ·intro v' w' h1 h2;refine hK v' w' ?_ ((Lb _ _).grown h2 (La _) (fun k hk=>by cases hk))
  rw[Qg,Le,LL];exact h1
structure Rg(w:World)(p:Nat)(v:Value)(k:Int)(n:Nat)(P:LB):Prop where
 blk:w.heap[p]? = some (.cells #[.int .i64 k,.int .u64 n,v] 234 (0,0))
 own:Qg w 0 v P
 k1:1<=k
 k2:k<=32
 hn:n<=1099511627776
 hl:P.length=(hts n).length
 hs:∀s∈P,s.size=clk k
section
variable {w W:World} {p q:Nat} {v u:Value} {k k':Int} {n n':Nat} {P P':LB}
theorem Rg.lt(h:Rg w p v k n P):p<w.heap.size:=(Array.getElem?_eq_some_iff.1 h.blk).1
theorem Rg.c0(h:Rg w p v k n P):w.cell? ⟨p,0,none⟩=some (.int .i64 k):=by rw[cell_of_row w p 0 _ _ (0,0) h.blk];rfl
theorem Rg.c1(h:Rg w p v k n P):w.cell? ⟨p,1,none⟩=some (.int .u64 n):=by rw[cell_of_row w p 1 _ _ (0,0) h.blk];rfl
theorem Rg.c2(h:Rg w p v k n P):w.cell? ⟨p,2,none⟩=some v:=by rw[cell_of_row w p 2 _ _ (0,0) h.blk];rfl
theorem Rg.fz(h:Rg w p v k n P)(j:Nat):w.frozen? ⟨p,j,none⟩=false:=frozen_of_row w p j _ _ h.blk
theorem Rg.short(h:Rg w p v k n P):P.length<=41:=by rw[h.hl];exact QjI n
theorem Rg.small(h:Rg w p v k n P):∀s∈P,s.size<=140737488351232:=fun s hs=>by rw[h.hs s hs];have:=Qs k;omega
theorem Rg.next{B:Nat}(h:Rg w p v k n P)(hb:Below B w W)(hB:w.heap.size<=B):Rg W p v k n P :=
 ⟨by rw[hb.block p (Lv h.lt hB)];exact h.blk,Qx h.own hb hB,h.k1,h.k2,h.hn,h.hl,h.hs⟩
theorem Rg.rd(h:Rg w p v k n P):∃ao b cap,v= .slice ao P.length cap∧RdS w ao b 0 P.length P∧P.length<=cap∧(ao=none->cap=0) :=
 QH h.own (fun s hs=>Lu (h.small s hs) (by decide))
end
structure Ch(p:Nat)(w w':World):Prop where
 below:Below p w w'
 block:∀q,q<w.heap.size->q≠p->w'.heap[q]? = w.heap[q]?
theorem Ch.of{p:Nat}{w w':World}(h:Below w.heap.size w w')(hp:p<w.heap.size):Ch p w w':=⟨h.mono (Ws hp),fun q hq _=>h.block q hq⟩
theorem Ch.set{p:Nat}{w w':World}(h:Ch p w w')(i:Nat)(v:Value):Ch p w (w'.setCell ⟨p,i,none⟩ v):=by
 refine⟨h.below.setCell (p:=⟨p,i,none⟩) (La _) v,fun q hq hne=> ?_⟩
 rw[<-h.block q hq hne];exact Below.heap_setCell _ _ _ _ hne
end Kp
def nd(c:Nat)(L:LB):Nat->Nat->BA
 | 0,i=>dg c (Yx (L.getD i ByteArray.empty))
 | h+1,i=>dg c (Qz (nd c L h (2*i)) (nd c L h (2*i+1)))
theorem Ye{c:Nat}(hc:c<=32)(L:LB)(h i:Nat):(nd c L h i).size=c:=by
 cases h with
 | zero=>rw[nd,Ys hc]
 | succ h=>rw[nd,Ys hc]
theorem Jy{c:Nat}{L M:LB} : ∀(h i j:Nat),(∀t,t<2^h->L.getD (i*2^h+t) ByteArray.empty=M.getD (j*2^h+t) ByteArray.empty)->nd c L h i=nd c M h j
 | 0,i,j,e=>by
  have:=e 0 (by decide)
  simp only[Nat.pow_zero,Nat.mul_one,Nat.add_zero] at this;rw[nd,nd,this]
 | h+1,i,j,e=>by
  have p:2^(h+1)=2*2^h:=by rw[LJ];omega
  rw[nd,nd,Jy h (2*i) (2*j),Jy h (2*i+1) (2*j+1)]
  ·intro t ht;have:=e (2^h+t) (by omega)
   rw[p] at this;rw[show(2*i+1)*2^h+t=i*(2*2^h)+(2^h+t) by rw[LT,L5,NX];omega,show(2*j+1)*2^h+t=j*(2*2^h)+(2^h+t) by rw[LT,L5,NX];omega]
   exact this
  ·intro t ht;have:=e t (by omega)
   rw[p] at this;rw[show 2*i*2^h+t=i*(2*2^h)+t by rw[L5,NX],show 2*j*2^h+t=j*(2*2^h)+t by rw[L5,NX]]
   exact this
theorem QjF(L:LB)(a n t:Nat)(h:t<n):((L.drop a).take n).getD t ByteArray.empty=L.getD (a+t) ByteArray.empty:=by
 rw[Lc,Lc,Ig h,NI]
theorem QoO(c:Nat)(L:LB)(h i:Nat):nd c ((L.drop (i*2^h)).take (2^h)) h 0=nd c L h i :=
 Jy h 0 i fun t ht=>by rw[Wu,Lo,QjF _ _ _ _ ht]
def pks(c:Nat)(L:LB):Nat->LB
 | 0=>[]
 | h+1=>(if L.length/2^h%2=1 then [nd c L h (L.length/2^h-1)] else [])++pks c L h
theorem Qdd{c:Nat}{L:LB}{h:Nat}(e:L.length/2^h%2=1):pks c L (h+1)=nd c L h (L.length/2^h-1)::pks c L h:=by rw[pks,Lm e];rfl
theorem QbC{c:Nat}{L:LB}{h:Nat}(e:L.length/2^h%2≠1):pks c L (h+1)=pks c L h:=by rw[pks,Ld e];rfl
theorem Qdc(c:Nat)(L:LB):∀h,(pks c L h).length<=h
 | 0=>La _
 | h+1=>by
  have:=Qdc c L h
  by_cases e:L.length/2^h%2=1
  ·rw[Qdd e,LD];omega
  ·rw[QbC e];omega
theorem QbD{c:Nat}(hc:c<=32)(L:LB):∀h,∀s∈pks c L h,s.size=c
 | 0=>by intro s hs;cases hs
 | h+1=>by
  intro s hs;have:=QbD hc L h
  by_cases e:L.length/2^h%2=1
  ·rw[Qdd e] at hs
   rcases List.mem_cons.1 hs with rfl|hs
   ·exact Ye hc _ _ _
   ·exact this s hs
  ·rw[QbC e] at hs;exact this s hs
theorem Qhd{n h:Nat}(e:n<2^h):n/2^h%2≠1:=by rw[N8 e];decide
theorem Qgj{n g s:Nat}(h:s<g):n%2^g/2^s%2=n/2^s%2:=by
 obtain⟨d,rfl⟩:∃d,g=s+(d+1):=⟨g-s-1,by omega⟩
 rw[Im,Nat.mod_mul_right_div_self,LJ,LU,Nat.mod_mul_right_mod]
theorem Qg5{n g s:Nat}(h1:2^s<=n%2^g)(h2:n%2^g<2^(s+1)):s<g∧n/2^s%2=1∧n%2^g=n%2^(s+1)∧n%2^(s+1)=2^s+n%2^s:=by
 have hsg:s<g:=by
  apply Nat.lt_of_not_le
  intro hle;have:=Nc (n:=2) (by decide) hle
  have:=Iu n (LP g);omega
 have e1:n%2^g=n%2^(s+1):=by
  have:=Nat.mod_mod_of_dvd n (Wz 2 (show s+1<=g by omega))
  rw[<-this,Nz h2]
 rw[e1] at h1 h2;have e2:n/2^s%2=1:=by
  rw[<-Qgj (show s<s+1 by omega)]
  have:n%2^(s+1)/2^s=1:=by
   have hp:2^(s+1)=2^s*2:=LJ ..;rw[Nat.div_eq_iff (LP s)];generalize n%2^(s+1)=m at *;omega
  rw[this]
 refine⟨hsg,e2,e1,?_⟩
 rw[LJ,Il,e2];omega
theorem Qeo{n s:Nat}(e:n/2^s%2=1):(n/2^s-1)*2^s=n-n%2^(s+1)∧1<=n/2^s:=by
 have h1:1<=n/2^s:=by
  generalize n/2^s=x at *;omega
 refine⟨?_,h1⟩
 have:=Ia n (2^s);rw[LJ,Il,e,Nat.sub_mul,LU (n/2^s)];omega
def Y4(c:Nat)(L:LB)(h m:Nat):LB:=(List.range m).map (nd c L h)
theorem YB(c:Nat)(L:LB)(h m:Nat):(Y4 c L h m).length=m:=by simp[Y4]
theorem Qdn(c:Nat)(L:LB)(h m:Nat){j:Nat}(hj:j<m):(Y4 c L h m).getD j ByteArray.empty=nd c L h j:=by
 simp[Y4,List.getD_eq_getElem?_getD,hj]
theorem Qck(c:Nat)(L:LB)(h m:Nat):Y4 c L h m++[nd c L h m]=Y4 c L h (m+1):=by
 simp[Y4,List.range_succ]
namespace Cv
open Pl
def dnL:Nat->Nat->Nat->List (Nat×Nat)
 | 0,_,_=>[]
 | h+1,lo,hi=>if pw h<=hi-lo then (h,lo/pw h)::dnL h (lo+pw h) hi else dnL h lo hi
def upL:Nat->Nat->Nat->Nat->List (Nat×Nat)
 | 0,_,_,_=>[]
 | f+1,h,lo,hi=>if pw h<=hi-lo then (if lo/pw h%2=1 then (h,lo/pw h)::upL f (h+1) (lo+pw h) hi else upL f (h+1) lo hi) else dnL (h+1) lo hi
def cov(lo hi:Nat):List (Nat×Nat):=upL 42 0 lo hi
def rst:Nat->Nat->List Nat->List (Nat×Nat)
 | x,n,[]=>cov x n
 | x,n,i::S=>cov x i++rst (i+1) n S
def All(A:Nat->Prop)(h k:Nat):Prop := ∀i,k*pw h<=i->i<(k+1)*pw h->A i
def Til(A:Nat->Prop)(q:Nat):Nat->List (Nat×Nat)->Prop
 | p,[]=>p<=q ∧ ∀i,p<=i->i<q -> ¬A i
 | p,b::L=>p<=b.2*pw b.1∧(b.2+1)*pw b.1<=q∧(∀i,p<=i->i<b.2*pw b.1 -> ¬A i)∧All A b.1 b.2 ∧ ¬All A (b.1+1) (b.2/2)∧Til A q ((b.2+1)*pw b.1) L
theorem YE(h k:Nat):k*pw h<(k+1)*pw h:=by
 have:=Qw h;rw[LT,Na];omega
theorem Qbm(A:Nat->Prop)(h k h' k':Nat)(he:k*pw h=k' * pw h')(hl:h<h')(ha:All A h' k'):All A (h+1) (k/2):=by
 obtain⟨d,rfl⟩:∃d,h'=h+1+d:=⟨h'-(h+1),by omega⟩
 have e1:pw (h+1+d)=2*pw d*pw h:=by rw[Od,QF,LU (2*pw h),<-L5,LU (pw d)]
 have hp:=Qw h;have hd:=Qw d;have hk:k=k' * (2*pw d):=by
  rw[e1,<-L5] at he;exact Wf hp he
 have hk2:k/2=k' * pw d:=by
  rw[hk,show k' * (2*pw d)=k' * pw d*2 by rw[LU 2,L5]]
  exact NJ _ (by decide)
 intro i h1 h2;have e2:pw (h+1+d)=pw d*pw (h+1):=by rw[Od,LU]
 refine ha i ?_ ?_
 ·rw[e2,<-L5,<-hk2];exact h1
 ·refine Lv h2 ?_
  rw[e2,<-L5,hk2];refine LM _ ?_
  rw[LT];omega
theorem Qpa{A:Nat->Prop}{q p:Nat}{L:List (Nat×Nat)}(h:Til A q p L):p<=q:=by
 cases L with
 | nil=>exact h.1
 | cons b L=>have:=YE b.1 b.2;have h1:=h.1;have h2:=h.2.1;omega
theorem Qnz{A:Nat->Prop}{q:Nat} : ∀ {L L':List (Nat×Nat)} {p:Nat},Til A q p L->Til A q p L'->L=L':=by
 intro L
 induction L with
 | nil=>
  intro L' p h h'
  cases L' with
  | nil=>rfl
  | cons b L'=>
   obtain⟨a1,a2,a3,a4,a5,a6⟩:=h';have:=YE b.1 b.2;exact absurd (a4 _ (La _) this) (h.2 _ a1 (by omega))
 | cons c L ih=>
  intro L' p h h'
  cases L' with
  | nil=>
   obtain⟨a1,a2,a3,a4,a5,a6⟩:=h;have:=YE c.1 c.2;exact absurd (a4 _ (La _) this) (h'.2 _ a1 (by omega))
  | cons b L'=>
   obtain⟨a1,a2,a3,a4,a5,a6⟩:=h;obtain⟨b1,b2,b3,b4,b5,b6⟩:=h';obtain⟨h,k⟩:=c;obtain⟨h',k'⟩:=b;simp only at *;have x1:=YE h k;have x2:=YE h' k';have he:k*pw h=k' * pw h':=by
    rcases Wk (k*pw h) (k' * pw h') with hh|hh|hh
    ·exact absurd (a4 _ (La _) x1) (b3 _ a1 hh)
    ·exact hh
    ·exact absurd (b4 _ (La _) x2) (a3 _ b1 hh)
   have hh:h=h':=by
    rcases Wk h h' with hh|hh|hh
    ·exact absurd (Qbm A h k h' k' he hh b4) a5
    ·exact hh
    ·exact absurd (Qbm A h' k' h k he.symm hh a4) b5
   subst hh;have hk:k=k':=Wf (Qw h) he;subst hk;rw[ih a6 b6]
theorem Qg2{A:Nat->Prop}{q p p':Nat}{L:List (Nat×Nat)}(h:Til A q p' L)(hp:p<=p')(hn:∀i,p<=i->i<p' -> ¬A i):Til A q p L:=by
 cases L with
 | nil=>exact⟨Lu hp h.1,fun i h1 h2=>if hi:i<p' then hn i h1 hi else h.2 i (by omega) h2⟩
 | cons b L=>exact⟨Lu hp h.1,h.2.1,fun i h1 h2=>if hi:i<p' then hn i h1 hi else h.2.2.1 i (by omega) h2,h.2.2.2⟩
theorem QdA{A:Nat->Prop}{q m:Nat}{L':List (Nat×Nat)}(h':Til A q m L'):∀ {L:List (Nat×Nat)} {p:Nat},Til A m p L->Til A q p (L++L'):=by
 intro L
 induction L with
 | nil=>intro p h;exact Qg2 h' h.1 h.2
 | cons b L ih=>
  intro p h;have:=Qpa h';exact⟨h.1,Lu h.2.1 this,h.2.2.1,h.2.2.2.1,h.2.2.2.2.1,ih h.2.2.2.2.2⟩
abbrev Rg(lo hi:Nat):Nat->Prop:=fun i=>lo<=i∧i<hi
theorem QG(c h:Nat):c*pw (h+1)=2*c*pw h:=by rw[QF,<-L5,LU c]
theorem Qou(lo0 hi:Nat):∀h lo,(∃c,lo=c*pw h)->hi-lo<pw h->lo0<=lo->lo<=hi->Til (Rg lo0 hi) hi lo (dnL h lo hi):=by
 intro h
 induction h with
 | zero=>
  intro lo _ h2 h3 h4;rw[UB] at h2;exact⟨h4,fun i h5 h6 _=>by omega⟩
 | succ h ih=>
  intro lo h1 h2 h3 h4;obtain⟨c,hc⟩:=h1;have hp:=Qw h;have hps:=QF h;rw[QG] at hc;rw[dnL]
  split
  ·rename_i hfit
   have hk:lo/pw h=2*c:=by rw[hc];exact NJ _ hp
   have e1:(2*c+1)*pw h=lo+pw h:=by rw[LT,Na,<-hc]
   have e2:2*c/2=c:=by omega
   have e3:c*pw (h+1)=lo:=by rw[QG];exact hc.symm
   rw[hk];refine⟨by show lo<=2*c*pw h;omega,by show(2*c+1)*pw h<=hi;omega,fun i i1 i2=>by dsimp only at i2;omega,fun i i1 i2=> ?_,fun hall=> ?_,?_⟩
   ·dsimp only at i1 i2;exact⟨by omega,by omega⟩
   ·dsimp only at hall
    rw[e2] at hall;have:=hall hi (by omega) (by rw[LT,Na,e3];omega)
    exact absurd this.2 (Ns _)
   ·dsimp only
    rw[e1];exact ih (lo+pw h) ⟨2*c+1,e1.symm⟩ (by omega) (by omega) (by omega)
  ·exact ih lo ⟨2*c,hc⟩ (by omega) h3 h4
theorem pw40{h:Nat}(hh:pw h<=2^40):h<=40:=by
 by_cases h1:h<=40
 ·exact h1
 ·have h2:pw 41<=pw h:=J3 (by omega)
  have h3:pw 41=2^41:=rfl;omega
theorem JI{lo hi h:Nat}(hl:hi-lo<pw h):dnL (h+1) lo hi=dnL h lo hi:=by
 rw[dnL,Ld (by omega)]
theorem Qpg(lo0 hi:Nat)(hhi:hi<=2^40):∀f h lo,f+h=42->h<=41->(∃c,lo=c*pw h)->lo0<=lo->lo<lo0+pw h->lo<=hi->Til (Rg lo0 hi) hi lo (upL f h lo hi):=by
 intro f
 induction f with
 | zero=>intro h lo h1 h2;omega
 | succ f ih=>
  intro h lo h1 h2 h3 h4 h5 h6;obtain⟨c,hc⟩:=h3;have hp:=Qw h;have hps:=QF h;rw[upL]
  split
  ·rename_i hfit
   have hh:h<=40:=pw40 (by omega)
   have hk:lo/pw h=c:=by rw[hc];exact NJ _ hp
   rw[hk];have e1:(c+1)*pw h=lo+pw h:=by rw[LT,Na,<-hc]
   split
   ·rename_i hodd
    have e2:c/2*pw (h+1)+pw h=lo:=by
     rw[QG,hc];have:c=2*(c/2)+1:=by omega
     conv=>rhs;rw[this,LT,Na]
    have e3:(c+1)/2*pw (h+1)=lo+pw h:=by
     rw[QG,<-e1];have:c+1=2*((c+1)/2):=by omega
     conv=>rhs;rw[this]
    refine⟨by show lo<=c*pw h;omega,by show(c+1)*pw h<=hi;omega,fun i i1 i2=>by dsimp only at i2;omega,fun i i1 i2=> ?_,fun hall=> ?_,?_⟩
    ·dsimp only at i1 i2;exact⟨by omega,by omega⟩
    ·dsimp only at hall
     have:=hall _ (La _) (YE _ _);have:=this.1;omega
    ·dsimp only
     rw[e1];exact ih (h+1) (lo+pw h) (by omega) (by omega) ⟨_,e3.symm⟩ (by omega) (by omega) (by omega)
   ·rename_i hev
    refine ih (h+1) lo (by omega) (by omega) ⟨c/2,?_⟩ h4 (by omega) h6
    rw[QG,hc];have:c=2*(c/2):=by omega
    conv=>lhs;rw[this]
  ·rename_i hno
   rw[JI (by omega)]
   exact Qou lo0 hi h lo ⟨c,hc⟩ (by omega) h4 h6
theorem QaK(lo hi:Nat)(h:lo<=hi)(hhi:hi<=2^40):Til (Rg lo hi) hi lo (cov lo hi) :=
 Qpg lo hi hhi 42 0 lo rfl (by decide) ⟨lo,by simp[pw]⟩ (La _) (by rw[UB];omega) h
theorem Qi8(lo:Nat):cov lo lo=[]:=by simp[cov,upL,pw,dnL]
theorem Qah:∀h lo hi,(dnL h lo hi).length<=h:=by
 intro h
 induction h with
 | zero=>intro lo hi;exact La _
 | succ h ih=>
  intro lo hi;rw[dnL]
  split
  ·have:=ih (lo+pw h) hi;simp;omega
  ·have:=ih lo hi;omega
theorem Qpe(hi:Nat)(hhi:hi<=2^40):∀f h lo,f+h=42->h<=40->lo<=hi->(upL f h lo hi).length<=80-h:=by
 intro f
 induction f with
 | zero=>intro h lo h1 h2;omega
 | succ f ih=>
  intro h lo h1 h2 h3
  by_cases h40:h=40
  ·subst h40;obtain rfl:f=1:=by omega
   by_cases hfit:pw 40<=hi-lo
   ·have e:pw 40=2^40:=rfl;obtain rfl:lo=0:=by omega
    obtain rfl:hi=2^40:=by omega
    decide
   ·rw[upL,Ld hfit,JI (by omega)]
    have:=Qah 40 lo hi;omega
  ·rw[upL]
   split
   ·split
    ·have:=ih (h+1) (lo+pw h) (by omega) (by omega) (by omega)
     simp;omega
    ·have:=ih (h+1) lo (by omega) (by omega) h3
     omega
   ·rw[JI (by omega)]
    have:=Qah h lo hi;omega
theorem U7(lo hi:Nat)(h:lo<=hi)(hhi:hi<=2^40):(cov lo hi).length<=80:=Qpe hi hhi 42 0 lo rfl (by decide) h
theorem Ql4{lo hi h:Nat}(hl:hi-lo<pw h):∀d,dnL (h+d) lo hi=dnL h lo hi:=by
 intro d
 induction d with
 | zero=>rfl
 | succ d ih=>
  have:pw h<=pw (h+d):=J3 (by omega)
  rw[<-Nr,JI (by omega),ih]
theorem QnF(n:Nat)(hn:n<=2^40):∀f h,f+h=42->h<=41->upL f h 0 n=dnL 41 0 n:=by
 intro f
 induction f with
 | zero=>intro h h1 h2;omega
 | succ f ih=>
  intro h h1 h2;rw[upL]
  split
  ·rename_i hfit
   have:=pw40 (h:=h) (by omega)
   rw[Nat.zero_div,Ld (by decide)]
   exact ih (h+1) (by omega) (by omega)
  ·rename_i hno
   rw[JI (by omega),show 41=h+(41-h) by omega,Ql4 (by omega)]
theorem Q0(n:Nat)(hn:n<=2^40):cov 0 n=dnL 41 0 n:=QnF n hn 42 0 rfl (by decide)
theorem OO:∀h d,d<pw (h+1)->Qv (h+1) d=d/pw h+Qv h (d%pw h):=by
 intro h
 induction h with
 | zero=>intro d hd;simp[Qv,pw] at *;omega
 | succ h ih=>
  intro d hd;have e1:d%pw (h+1)=d%2+2*(d/2%pw h):=by rw[QF,Il]
  have e2:d/pw (h+1)=d/2/pw h:=by rw[QF,L3]
  rw[Qv,ih (d/2) (by rw[QF] at hd;omega),e1,e2,Qv]
  have e3:(d%2+2*(d/2%pw h))%2=d%2:=by omega
  have e4:(d%2+2*(d/2%pw h))/2=d/2%pw h:=by omega
  rw[e3,e4];omega
theorem Ql5:∀h lo hi,hi-lo<pw h->(dnL h lo hi).length=Qv h (hi-lo):=by
 intro h
 induction h with
 | zero=>intro lo hi _;rfl
 | succ h ih=>
  intro lo hi hl;have hp:=Qw h;have hps:=QF h;rw[OO h _ hl,dnL]
  split
  ·rename_i hfit
   have e1:(hi-lo)/pw h=1:=by rw[Nat.div_eq_iff hp];omega
   have e2:(hi-lo)%pw h=hi-(lo+pw h):=by rw[Nat.mod_eq_sub_mod hfit,Nz (by omega)];omega
   rw[e1,e2,LD,ih (lo+pw h) hi (by omega)];omega
  ·rename_i hno
   rw[N8 (by omega),Nz (by omega),ih lo hi (by omega)];omega
theorem QmS(j d n:Nat)(h:n<2^j):Qv (j+d) n=Qv j n:=by
 induction d with
 | zero=>rfl
 | succ d ih=>rw[<-Nr,UU _ _ (Lv h (Nc (by decide) (by omega))),ih]
theorem Ot(n:Nat)(hn:n<=2^40):(cov 0 n).length=Qv 64 n:=by
 rw[Q0 n hn, Ql5 41 0 n (by have:pw 41=2 ^ 41:=rfl
                            omega)]
 exact(QmS 41 23 n (by omega)).symm
theorem UM(n:Nat)(hn:n<=2^40):(cov 0 n).length<=40:=by
 by_cases h:n=2^40
 ·subst h;decide
 ·rw[Q0 n hn, show(41:Nat)=40+1 from rfl, JI (by have:pw 40=2 ^ 40:=rfl
                                                 omega)]
  exact Qah 40 0 n
end Cv
theorem Tryz.laidOut:laidOutB prog=true:=by kernel_rfl
theorem Tryz.rowB:(249:TypeId)<prog.types.size:=NY (by kernel_rfl)
theorem Tryz.deepB:prog.keyTypeAt 2 249=true:=by kernel_rfl
theorem Tryz.keyed:Maps.Keyed prog 249:=Maps.Keyed.of_law (deep_law_laid Tryz.laidOut (m:=2) (by omega) Tryz.rowB Tryz.deepB (by rw[underlying249]))
def kv(h:Int)(k:Nat):Value := .agg #[.int .i64 h,.int .u64 k]
def nv(s:BA):Value := .agg #[.string s]
theorem Qfx{h h':Int}{k k':Nat}(e:kv h k=kv h' k'):h=h'∧k=k':=by
 have h1:Value.int .i64 h=Value.int .i64 h'∧Value.int .u64 k=Value.int .u64 k':=by
  unfold kv at e;injection e with e
  have:=LW Array.toList e;injection this with a b
  injection b with b _
  exact⟨a,b⟩
 obtain⟨a,b⟩:=h1;injection a with _ a
 injection b with _ b
 exact⟨a,by omega⟩
theorem Qkp{s s':BA}(e:nv s=nv s'):s=s':=by
 unfold nv at e;injection e with e
 have:=LW Array.toList e;injection this with a _
 injection a
def Fitb(h:Int)(k:Nat):Prop:=(-9223372036854775808<=h∧h<=9223372036854775807)∧k<18446744073709551616
theorem keyT:prog.keyType 249=true:=by kernel_rfl
theorem QiV:prog.cellsOf 249=2:=by kernel_rfl
theorem QlU:prog.cellsOf 3=1:=by kernel_rfl
theorem QlV:prog.cellsOf 48=1:=by kernel_rfl
theorem Qpc:∃n,prog.types.size+1=n+2:=by
 have h:0<prog.types.size:=Is (Ln _) Tryz.rowB;generalize prog.types.size=z at *;exact⟨z-1,by omega⟩
theorem Qmt(n:Nat)(h u:Int)(w1:(Lit.int .i64 h).wf=true)(w2:(Lit.int .u64 u).wf=true):prog.keyLits (n+2) 249 [.int .i64 h,.int .u64 u]=some [.int .i64 h,.int .u64 u]:=by
 simp[Program.keyLits,underlying249,w1,w2,QiV,QlU,QlV,underlying3,underlying48]
theorem QhK(h:Int)(k:Nat):(kv h k).formed prog 249=true:=by
 simp[Value.formed,underlying249,QiV,kv]
theorem QcU{h:Int}{k:Nat}(hf:Fitb h k):∃l,keyOf prog 249 (kv h k)=some l:=by
 obtain⟨n,hn⟩:=Qpc;obtain⟨h1,h3⟩:=hf;have e:=Qmt n h k (WalkArith.wf_i64 h1) (WalkArith.wf_u64 ⟨by omega,by omega⟩)
 have e2:(kv h k).cells.toList=[.int .i64 h,.int .u64 k]:=rfl;rw[<-hn,<-e2] at e;unfold keyOf;rw[underlying249];simp only[keyT,QhK,Bool.and_self,if_true,e,Option.map_some];exact⟨_,rfl⟩
def Mp(w:World)(b:Nat)(f:Int->Nat->Option BA):Prop :=
 ∃es clock,w.heap[b]? = some (.map es clock)∧(∀e∈es.toList,∃h k s,Fitb h k∧e.key=kv h k∧e.val=nv s)∧es.toList.Pairwise (fun x y=>x.key≠y.key) ∧
  ∀h k s,Fitb h k->(f h k=some s ↔ ∃e∈es.toList,e.key=kv h k∧e.val=nv s)
theorem Mp.lt{w:World}{b:Nat}{f:Int->Nat->Option BA}(h:Mp w b f):b<w.heap.size:=by
 obtain⟨es,c,h1,_⟩:=h;exact(Array.getElem?_eq_some_iff.1 h1).1
theorem Mp.same{w W:World}{b:Nat}{f:Int->Nat->Option BA}(h:Mp w b f)(hb:W.heap[b]? = w.heap[b]?):Mp W b f:=by
 obtain⟨es,c,h1,h2⟩:=h;exact⟨es,c,hb.trans h1,h2⟩
theorem QoJ(w:World):Mp (w.alloc (.map #[] 0)) w.heap.size (fun _ _=>none):=by
 refine⟨#[],0,(MapKept.heap_alloc w _).1,?_,?_,?_⟩
 ·intro e he;simp at he
 ·simp
 ·intro h k s _;simp
theorem Mp.find{w:World}{b:Nat}{f:Int->Nat->Option BA}(hm:Mp w b f){h:Int}{k:Nat}(hf:Fitb h k) :
  ∃es clock,w.heap[b]? = some (.map es clock)∧((f h k=none∧(Instr.findKey 249 (kv h k) es.toList).run prog w= .ok none w ∧ ∀e∈es.toList,e.key≠kv h k) ∨
   ∃j e s,f h k=some s∧(Instr.findKey 249 (kv h k) es.toList).run prog w= .ok (some (j,nv s)) w∧es.toList[j]? = some e∧e.key=kv h k):=by
 obtain⟨es,c,h1,h2,h3,h4⟩:=hm;obtain⟨l,hl⟩:=QcU hf;refine⟨es,c,h1,?_⟩
 rcases Tryz.keyed.find w hl es.toList (fun e he=>by obtain⟨h',k',s,hf',e1,_⟩:=h2 e he;rw[e1];exact QcU hf') with ⟨r1,r2⟩|⟨j,e,r1,r2,r3⟩
 ·refine .inl ⟨?_,r1,r2⟩
  cases hx:f h k with
  | none=>rfl
  | some s=>
   obtain⟨e,he,ek,_⟩:=(h4 h k s hf).1 hx;exact absurd ek (r2 e he)
 ·have hm:=Nt r2;obtain⟨h',k',s,hf',e1,e2⟩:=h2 e hm;rw[e2] at r1;exact .inr ⟨j,e,s,(h4 h k s hf).2 ⟨e,hm,r3,e2⟩,r1,r2,r3⟩
theorem Mp.look{w:World}{b:Nat}{f:Int->Nat->Option BA}(hm:Mp w b f){h:Int}{k:Nat}(hf:Fitb h k)(c:Bool) :
  (Instr.lookup 170 (.map (some b)) (kv h k) c).run prog w= .ok (if c then .tuple #[nv ((f h k).getD ByteArray.empty),.bool (f h k).isSome] else nv ((f h k).getD ByteArray.empty)) w:=by
 obtain⟨l,hl⟩:=QcU hf;obtain⟨es,cl,h1,⟨e0,e1,_⟩|⟨j,e,s,e0,e1,_⟩⟩:=hm.find hf
 ·rw[e0];simp[Instr.lookup,run_underlying underlying170,MapKept.run_getObj_map h1,Tryz.keyed.check w _ hl,e1,Result.andThen]
  rfl
 ·rw[e0];simp[Instr.lookup,run_underlying underlying170,MapKept.run_getObj_map h1,Tryz.keyed.check w _ hl,e1,Result.andThen]
def put(f:Int->Nat->Option BA)(h:Int)(k:Nat)(s:BA):Int->Nat->Option BA:=fun h' k'=>if h'=h∧k'=k then some s else f h' k'
theorem Mp.write{w:World}{b:Nat}{f:Int->Nat->Option BA}(hm:Mp w b f){h:Int}{k:Nat}(hf:Fitb h k)(s:BA) :
  ∃es clock,(Instr.mapUpdate 170 (.map (some b)) (kv h k) (nv s)).run prog w= .ok () (ChangeMaps.setBlock w b (.map es clock))∧Mp (ChangeMaps.setBlock w b (.map es clock)) b (put f h k s):=by
 have hb:=hm.lt;obtain⟨l,hl⟩:=QcU hf;have sz:∀o,(ChangeMaps.setBlock w b o).heap[b]? = some o:=fun o=>by simp[ChangeMaps.setBlock,hb]
 obtain⟨es,cl,h1,hor⟩:=hm.find hf;obtain⟨es',cl',g1,g2,g3,g4⟩:=hm;rw[h1] at g1;injection g1 with g1
 injection g1 with g1 g1'
 subst g1 g1'
 rcases hor with ⟨e0,e1,e2⟩|⟨j,e,s0,e0,e1,e2,e3⟩
 ·refine⟨es.push ⟨kv h k,nv s,cl⟩,cl+1,?_,_,_,sz _,?_,?_,?_⟩
  ·simp[Instr.mapUpdate,run_underlying underlying170,MapKept.run_getObj_map h1,Tryz.keyed.check w false hl,e1,MapKept.run_setObj_map _ h1,Result.andThen,ChangeMaps.setBlock]
  ·intro x hx;simp only[Array.toList_push,List.mem_append,List.mem_singleton] at hx
   rcases hx with hx|rfl
   ·exact g2 x hx
   ·exact⟨h,k,s,hf,rfl,rfl⟩
  ·rw[Array.toList_push,List.pairwise_append];refine⟨g3,by simp,fun x hx y hy=> ?_⟩
   simp only[List.mem_singleton] at hy;subst hy;exact e2 x hx
  ·intro h' k' s' hf';simp only[put,Array.toList_push,List.mem_append,List.mem_singleton]
   by_cases hq:h'=h∧k'=k
   ·obtain⟨rfl,rfl⟩:=hq;rw[Lm ⟨rfl,rfl⟩];refine⟨fun hs=> ?_,?_⟩
    ·injection hs with hs
     subst hs;exact⟨_,.inr rfl,rfl,rfl⟩
    ·rintro⟨x,hx|rfl,ex,ey⟩
     ·exact absurd ex (e2 x hx)
     ·rw[Qkp ey]
   ·rw[Ld hq,g4 h' k' s' hf'];refine⟨fun⟨x,hx,r⟩=>⟨x,.inl hx,r⟩,?_⟩
    rintro⟨x,hx|rfl,ex,ey⟩
    ·exact⟨x,hx,ex,ey⟩
    ·obtain⟨q1,q2⟩:=Qfx ex;exact absurd ⟨q1.symm,q2.symm⟩ hq
 ·have hj:es[j]? = some e:=by simpa using e2
  have hlist:(es.modify j (fun e'=> { e' with key:=kv h k,val:=nv s })).toList=es.toList.set j { e with key:=kv h k,val:=nv s } := by rw[Array.toList_modify,ChangeMaps.modify_eq_set _ _ _ _ e2]
  have hjl:j<es.toList.length:=(List.getElem?_eq_some_iff.1 e2).1
  have hne:∀i x,es.toList[i]? = some x->i≠j->x.key≠kv h k:=fun i x hx hij=>by
   have hil:=(List.getElem?_eq_some_iff.1 hx).1
   have pw:=List.pairwise_iff_getElem.1 g3;have ei:es.toList[i]=x:=(List.getElem?_eq_some_iff.1 hx).2
   have ej:es.toList[j]=e:=(List.getElem?_eq_some_iff.1 e2).2
   rcases Nat.lt_or_gt_of_ne hij with hlt|hlt
   ·have:=pw i j hil hjl hlt;rw[ei,ej,e3] at this;exact this
   ·have:=pw j i hjl hil hlt;rw[ei,ej,e3] at this;exact fun q=>this q.symm
  have who:∀x,x∈es.toList.set j { e with key:=kv h k,val:=nv s } ↔ x = { e with key:=kv h k,val:=nv s } ∨ (x∈es.toList∧x.key≠kv h k):=by
   intro x
   constructor
   ·intro hx;obtain⟨i,hi,ex⟩:=ND hx;rw[List.getElem_set] at ex
    split at ex
    ·exact .inl ex.symm
    ·rename_i hn
     have hi':i<es.toList.length:=by simpa using hi
     exact .inr ⟨ex ▸ LZ hi',hne i x (by rw[Ll hi',ex]) (fun q=>hn q.symm)⟩
   ·rintro(rfl|⟨hx,hk⟩)
    ·exact List.mem_iff_getElem.2 ⟨j,by simpa using hjl,by simp⟩
    ·obtain⟨i,hi,ex⟩:=ND hx;refine List.mem_iff_getElem.2 ⟨i,by simpa using hi,?_⟩
     rw[List.getElem_set_ne]
     ·exact ex
     ·rintro rfl
      apply hk
      rw[<-ex,(List.getElem?_eq_some_iff.1 e2).2,e3]
  refine⟨es.modify j (fun e'=> { e' with key:=kv h k,val:=nv s }),cl,?_,_,_,sz _,?_,?_,?_⟩
  ·simp[Instr.mapUpdate,run_underlying underlying170,MapKept.run_getObj_map h1,Tryz.keyed.check w false hl,e1,hj,e3,Tryz.keyed.stays w hl,MapKept.run_setObj_map _ h1,Result.andThen,ChangeMaps.setBlock]
  ·intro x hx;rw[hlist] at hx
   rcases(who x).1 hx with rfl|⟨hx,_⟩
   ·exact⟨h,k,s,hf,rfl,rfl⟩
   ·exact g2 x hx
  ·rw[hlist,List.pairwise_iff_getElem];have pw:=List.pairwise_iff_getElem.1 g3;have ky:∀i (hi:i<(es.toList.set j { e with key:=kv h k,val:=nv s }).length),((es.toList.set j { e with key:=kv h k,val:=nv s })[i]).key=(es.toList[i]'(by simpa using hi)).key:=by
    intro i hi;rw[List.getElem_set]
    split
    ·rename_i q
     subst q;rw[(List.getElem?_eq_some_iff.1 e2).2,e3]
    ·rfl
   intro i i' hi hi' hlt;rw[ky i hi,ky i' hi'];exact pw i i' _ _ hlt
  ·intro h' k' s' hf';rw[hlist]
   by_cases hq:h'=h∧k'=k
   ·obtain⟨rfl,rfl⟩:=hq;rw[put,Lm ⟨rfl,rfl⟩];refine⟨fun hs=> ?_,?_⟩
    ·injection hs with hs
     subst hs;exact⟨_,(who _).2 (.inl rfl),rfl,rfl⟩
    ·rintro⟨x,hx,ex,ey⟩
     rcases(who x).1 hx with rfl|⟨_,hk⟩
     ·rw[Qkp ey]
     ·exact absurd ex hk
   ·rw[put,Ld hq,g4 h' k' s' hf']
    constructor
    ·rintro⟨x,hx,ex,ey⟩;refine⟨x,(who x).2 (.inr ⟨hx,fun q=>hq ?_⟩),ex,ey⟩
     obtain⟨q1,q2⟩:=Qfx (ex.symm.trans q);exact⟨q1,q2⟩
    ·rintro⟨x,hx,ex,ey⟩
     rcases(who x).1 hx with rfl|⟨hx,_⟩
     ·obtain⟨q1,q2⟩:=Qfx ex;exact absurd ⟨q1.symm,q2.symm⟩ hq
     ·exact⟨x,hx,ex,ey⟩
end Go.Proofs.YtoblgjledefdbaaGreatDoor
