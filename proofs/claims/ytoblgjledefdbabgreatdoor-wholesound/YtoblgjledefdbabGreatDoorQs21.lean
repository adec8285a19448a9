/- Own work. -/
import Derived.Test.YtoblgjledefdbabGreatDoorQs09
set_option maxRecDepth 100000
set_option maxHeartbeats 1000000
namespace Go.Proofs.YtoblgjledefdbabGreatDoor
open Go.RowKit
attribute [local go_sem ↓] Go.wp_at_zero Go.wp_at_succ
open Go.Proofs.Tryz
def dep(ops:List Oper)(i k:Nat):Bool:=match ops[i]? with|some o=>o.after.toList.any (fun e=>e.on == k && Region.binds .any e)|none=>false
def Qg3(ops:List Oper)(sl ns:List Nat)(size:Nat):Bool :=
 ops.map (·.dst) == sl.map (fun t=>if t<size then some t else none) && (List.range sl.length).all (fun j=>decide (sl.getD j 0<size) || ns.contains j) && (List.range sl.length).all (fun j=>(List.range j).all fun k=>sl.getD k 0 != sl.getD j 0) &&
 (List.range ops.length).all (fun j=>match ops[j]? with|none=>false|some o=>o.after.all (fun e=> !Region.binds .any e || decide (e.on<j)) && (match o.guard with|none=>true|some (g,_)=>o.after.toList.any fun e=>e.on == g && Region.binds .any e))
def Qpo(P:Program)(Q:Exit->Act->World->Prop)(ops:List Oper)(sl:List Nat)(vs:List Value)(a0:Act)(I:(Nat->Bool)->World->Prop)(j:Nat)(o:Oper):Prop :=
 ∀(L:Nat->Bool) (a:Act) (w:World) (K:Act->World->Prop),I L w->L j=false->(∀i k,L i=true->dep ops i k=true->L k=true) ->
  (∀t,sl.contains t=false->a.tmps.getD t undef=a0.tmps.getD t undef) ->
  (∀k,(o.after.toList.any fun e=>e.on == k && Region.binds .any e)=true->a.tmps.getD (sl.getD k 0) undef=vs.getD k undef) ->
  (∀v w',(o.dst=none∨v=vs.getD j undef)->I (fun i=>if i=j then true else L i) w'->K (a.put o.dst v) w') ->
  match o.guard with
  | none=>o.wp P a w K Q
  | some (g,want)=> ∃b,a.tmps.getD (sl.getD g 0) undef= .bool b∧(if b=want then o.wp P a w K Q else K (a.put o.dst undef) w)
theorem Qeo(a:Act){t:Nat}(h:¬t<a.tmps.size):a.tmps.getD t undef=undef:=by simp[Array.getD,h]
theorem QeO:∀(sl:List Nat) (vs:List Value) (a:Act) (k:Nat),k<sl.length->sl.length=vs.length->sl.getD k 0<a.tmps.size->(∀i j,i<j->j<sl.length->sl.getD i 0≠sl.getD j 0)->(UM a sl vs).tmps.getD (sl.getD k 0) undef=vs.getD k undef
 | [],_,_,_,h,_,_,_=>by simp at h
 | _::_,[],_,_,_,h,_,_=>by simp at h
 | u::sl,v::vs,a,0,_,_,hlt,hne=>by
  have hn:sl.contains u=false:=by
   cases hc:sl.contains u with
   | false=>rfl
   | true=>
    obtain⟨i,hi,hu⟩:=L8 (List.contains_iff_mem.1 hc)
    exfalso
    refine hne 0 (i+1) (by omega) (by simp;omega) ?_
    simp[List.getD_eq_getElem?_getD,List.getElem?_eq_getElem hi,hu]
  rw[UM]
  show(UM _ sl vs).tmps.getD u undef=v
  rw[Oj sl vs _ u hn,Qbo _ u v (show u<a.tmps.size from hlt)]
 | u::sl,v::vs,a,k+1,hk,hl,hlt,hne=>by
  rw[UM]
  show(UM _ sl vs).tmps.getD (sl.getD k 0) undef=vs.getD k undef
  refine QeO sl vs _ k (by simpa using hk) (by simpa using hl) ?_ (fun i j hij hj=> ?_)
  ·have h2:sl.getD k 0<a.tmps.size:=hlt
   simpa [Act.put] using h2
  ·have:=hne (i+1) (j+1) (by omega) (by simpa using hj)
   simpa using this
theorem Qhi{a a0:Act}{sl:List Nat}{vs:List Value}(hd:a.defers=a0.defers)(hs:a.tmps.size=a0.tmps.size)(ho:∀t,sl.contains t=false->a.tmps.getD t undef=a0.tmps.getD t undef)
  (hv:∀k,k<sl.length->a.tmps.getD (sl.getD k 0) undef=vs.getD k undef) (hl:sl.length=vs.length) (hne:∀i j,i<j->j<sl.length->sl.getD i 0≠sl.getD j 0):a=UM a0 sl vs:=by
 have ht:a.tmps=(UM a0 sl vs).tmps:=by
  apply Array.ext
  ·rw[QcB,hs]
  ·intro t h1 h2;have e1:a.tmps.getD t undef=a.tmps[t]:=by simp[Array.getD,h1]
   have e2:(UM a0 sl vs).tmps.getD t undef=(UM a0 sl vs).tmps[t]:=by simp[Array.getD,h2]
   rw[<-e1,<-e2]
   cases hc:sl.contains t with
   | false=>rw[ho t hc,Oj sl vs a0 t hc]
   | true=>
    obtain⟨k,hk,hu⟩:=L8 (List.contains_iff_mem.1 hc);have e3:sl.getD k 0=t:=by rw[La,Ld hk];exact hu
    rw[<-e3,hv k hk,QeO sl vs a0 k hk hl (by rw[e3,<-hs];exact h1) hne]
 have hd':=hd.trans (QaA sl vs a0).symm
 cases a
 cases hp:UM a0 sl vs;rw[hp] at ht hd';simp only at ht hd';rw[ht,hd']
theorem Jk{P:Program}{ops:Array Oper}{Q:Exit->Act->World->Prop}{id:Nat}{a0:Act}{w0:World}(hm:P.follows .mixedOrders=true)
  (sl ns:List Nat) (vs:List Value) (hok:Qg3 ops.toList sl ns a0.tmps.size=true) (hl:sl.length=vs.length) (hu:∀j∈ns,vs.getD j undef=undef)
  (I:(Nat->Bool)->World->Prop) (h0:∀w,w.heap=w0.heap->Below w0.heap.size w0 w->I (fun _=>false) w)
  (step:QaE (Qpo P Q ops.toList sl vs a0 I) 0 ops.toList)
  (fin:∀L w,(∀k,k<sl.length->L k=true)->I L w->Q .normal (UM a0 sl vs) w):(Code.region id ops true).wp P Q a0 w0:=by
 simp only[Qg3,Bool.and_eq_true] at hok;obtain⟨⟨⟨hd,hlt⟩,hinj⟩,hacy⟩:=hok;have hd':ops.toList.map (·.dst)=sl.map (fun t=>if t<a0.tmps.size then some t else none):=by simpa using hd
 have hlen:ops.size=sl.length:=by have:=LZ List.length hd';simpa using this
 have dst:∀(j:Nat) (o:Oper),ops[j]? = some o->o.dst=if sl.getD j 0<a0.tmps.size then some (sl.getD j 0) else none:=fun j o ho=>by
  have h1:(ops.toList.map (·.dst))[j]? = some o.dst:=by
   rw[No,NM,ho];rfl
  rw[hd',No] at h1;rw[La]
  cases hs:sl[j]? with
  | none=>rw[hs] at h1;cases h1
  | some x=>rw[hs] at h1;simpa using h1.symm
 have big:∀j,j<sl.length -> ¬sl.getD j 0<a0.tmps.size->vs.getD j undef=undef:=fun j hj hn=>by
  have:=List.all_eq_true.1 hlt j (by simpa using hj)
  simp only[Bool.or_eq_true,decide_eq_true_eq] at this
  rcases this with h|h
  ·exact absurd h hn
  ·exact hu j (List.contains_iff_mem.1 h)
 have ne1:∀j k,k<j->j<sl.length->sl.getD k 0≠sl.getD j 0:=fun j k hk hj=>by
  have h1:=List.all_eq_true.1 hinj j (by simpa using hj)
  have h2:=List.all_eq_true.1 h1 k (by simpa using hk)
  simpa using h2
 have ne:∀j k,j<sl.length->k<sl.length->j≠k->sl.getD j 0≠sl.getD k 0:=fun j k hj hk h=>by
  rcases Ws j k with h'|h'
  ·exact ne1 k j h' hk
  ·exact(ne1 j k (by omega) hj).symm
 have acy:∀(j:Nat) (o:Oper),ops[j]? = some o->(∀e∈o.after,Region.binds .any e=true->e.on<j)∧(∀g want,o.guard=some (g,want)->(o.after.toList.any fun e=>e.on == g && Region.binds .any e)=true):=fun j o ho=>by
  have hj:j<ops.size:=(Array.getElem?_eq_some_iff.1 ho).1
  have h1:=List.all_eq_true.1 hacy j (by simpa using hj)
  rw[NM,ho] at h1;simp only[Bool.and_eq_true] at h1;refine⟨fun e he hb=> ?_,fun g want hg=> ?_⟩
  ·have:=Array.all_eq_true_iff_forall_mem.1 h1.1 e he
   simpa [hb] using this
  ·have:=h1.2;rw[hg] at this;exact this
 have memsl:∀j,j<sl.length->sl.contains (sl.getD j 0)=true:=fun j hj=>by
  rw[La,Ld hj];simp
 have core:∀(fuel:Nat) (listed:Array Bool) (a:Act) (w:World),listed.size=ops.size->cntU (fun k=>listed.getD k false) ops.size<=fuel ->
   I (fun k=>listed.getD k false) w->(∀i k,listed.getD i false=true->dep ops.toList i k=true->listed.getD k false=true)->a.defers=a0.defers->a.tmps.size=a0.tmps.size->(∀t,sl.contains t=false->a.tmps.getD t undef=a0.tmps.getD t undef) ->
   (∀k,k<sl.length->listed.getD k false=true->a.tmps.getD (sl.getD k 0) undef=vs.getD k undef)->wpAny P .any ops Q fuel listed a w:=by
  intro fuel;have finish:∀(listed:Array Bool) (a:Act) (w:World),(∀k,k<ops.size->listed.getD k false=true)->I (fun k=>listed.getD k false) w->a.defers=a0.defers->a.tmps.size=a0.tmps.size->(∀t,sl.contains t=false->a.tmps.getD t undef=a0.tmps.getD t undef) ->
    (∀k,k<sl.length->listed.getD k false=true->a.tmps.getD (sl.getD k 0) undef=vs.getD k undef)->Q .normal a w:=fun listed a w hall hI hde hts hsm hΦ=>by
   rw[Qhi hde hts hsm (fun k hk=>hΦ k hk (hall k (by omega))) hl (fun i j hij hj=>ne1 j i hij hj)]
   exact fin _ w (fun k hk=>hall k (by omega)) hI
  induction fuel with
  | zero=>
   intro listed a w hsz hc hI hcl hde hts hsm hΦ;have hall:=Qcj (Nat.le_zero.1 hc);refine⟨?_,finish listed a w hall hI hde hts hsm hΦ⟩
   apply List.eq_nil_iff_forall_not_mem.2
   intro i hi;obtain⟨h1,o,ho,_⟩:=mem_ready.1 hi;have hi':i<ops.size:=(Array.getElem?_eq_some_iff.1 ho).1
   have h2:=hall i hi';simp[Array.getD,hsz,hi'] at h1 h2;rw[h2] at h1;cases h1
  | succ fuel ih=>
   intro listed a w hsz hc hI hcl hde hts hsm hΦ;have gd:∀i,i<ops.size->listed.getD i true=listed.getD i false:=fun i hi=>by simp[Array.getD,hsz,hi]
   refine⟨fun hr=> ?_,fun i hi=> ?_⟩
   ·refine finish listed a w ?_ hI hde hts hsm hΦ
    have:∀n,∀k,k<n->k<ops.size->listed.getD k false=true:=by
     intro n
     induction n with
     | zero=>intro k hk;omega
     | succ n ihn=>
      intro k hk hks
      by_cases hlk:listed.getD k false=true
      ·exact hlk
      ·exfalso
       have hmem:k∈Region.ready .any ops listed:=by
        refine mem_ready.2 ⟨by rw[gd k hks];simpa using hlk,ops[k],Nq hks,fun e he hb=> ?_⟩
        have h1:=(acy k ops[k] (Nq hks)).1 e he hb;exact ihn e.on (by omega) (by omega)
       rw[hr] at hmem;cases hmem
    exact fun k hk=>this (k+1) k (by omega) hk
   ·obtain⟨h1,o,ho,hdep⟩:=mem_ready.1 hi;have hi':i<ops.size:=(Array.getElem?_eq_some_iff.1 ho).1
    have hds:=dst i o ho;have st:=Ol step (by rw[NM];exact ho)
    rw[Lp] at st;have dval:∀k,(o.after.toList.any fun e=>e.on == k && Region.binds .any e)=true->listed.getD k false=true:=fun k hk=>by
     obtain⟨e,he,h2⟩:=QcS hk;simp only[Bool.and_eq_true,beq_iff_eq] at h2;obtain⟨rfl,hbnd⟩:=h2;exact hdep e he hbnd
    have dlt:∀k,(o.after.toList.any fun e=>e.on == k && Region.binds .any e)=true->k<i:=fun k hk=>by
     obtain⟨e,he,h2⟩:=QcS hk;simp only[Bool.and_eq_true,beq_iff_eq] at h2;obtain⟨rfl,hbnd⟩:=h2;exact(acy i o ho).1 e he hbnd
    have hdp:∀k,(o.after.toList.any fun e=>e.on == k && Region.binds .any e)=true->a.tmps.getD (sl.getD k 0) undef=vs.getD k undef:=fun k hk=>
     hΦ k (by have:=dlt k hk;omega) (dval k hk)
    have hfun:(fun k=>(listed.setIfInBounds i true).getD k false)=fun k=>if k=i then true else listed.getD k false:=by
     funext k
     by_cases e:k=i
     ·subst e;simp[Array.getD,hsz,hi']
     ·by_cases h:k<listed.size
      ·simp[Array.getD,h,e,Ne.symm e]
      ·simp[Array.getD,h,e]
    have hK:∀v w',(o.dst=none∨v=vs.getD i undef)->I (fun k=>if k=i then true else listed.getD k false) w'->wpAny P .any ops Q fuel (listed.setIfInBounds i true) (a.put o.dst v) w':=fun v w' hv hI'=>by
     refine ih _ _ _ (by simp[hsz]) ?_ (by rw[hfun];exact hI') ?_ ?_ ?_ ?_ ?_
     ·have:=Qbb (p:=fun k=>listed.getD k false) (q:=fun k=>(listed.setIfInBounds i true).getD k false) (i:=i) (by rw[<-gd i hi'];exact h1) (by simp[Array.getD,hsz,hi']) (fun k hk=>by
       by_cases h:k<listed.size
       ·simp[Array.getD,h,Ne.symm hk]
       ·simp[Array.getD,h]) ops.size hi'
      omega
     ·intro x y hx hxy;have e1:(listed.setIfInBounds i true).getD x false=if x=i then true else listed.getD x false:=congrFun hfun x
      have e2:(listed.setIfInBounds i true).getD y false=if y=i then true else listed.getD y false:=congrFun hfun y
      rw[e1] at hx;rw[e2]
      by_cases ey:y=i
      ·rw[Lo ey]
      ·rw[Le ey]
       by_cases ex:x=i
       ·subst ex;refine dval y ?_
        have hxy':=hxy;unfold dep at hxy';rw[NM,ho] at hxy';exact hxy'
       ·rw[Le ex] at hx;exact hcl x y hx hxy
     ·rw[hds];split <;> exact hde
     ·rw[hds];split <;> simp[Act.put,hts]
     ·intro t ht;rw[hds]
      split
      ·rw[Uk]
       ·exact hsm t ht
       ·intro e;have:=memsl i (by omega)
        rw[e,ht] at this;cases this
      ·exact hsm t ht
     ·intro k hk hlk
      by_cases e:k=i
      ·subst e;rw[hds]
       split
       ·rename_i hsl
        rw[Qbo _ _ _ (by rw[hts];exact hsl)]
        rcases hv with hv|hv
        ·rw[hds,Lo hsl] at hv;cases hv
        ·exact hv
       ·rename_i hsl
        rw[big k hk hsl];exact Qeo a (by rw[hts];exact hsl)
      ·have hlk':listed.getD k false=true:=by
        have e1:(listed.setIfInBounds i true).getD k false=if k=i then true else listed.getD k false:=congrFun hfun k
        rw[e1,Le e] at hlk;exact hlk
       rw[hds]
       split
       ·rw[Uk _ _ _ _ (ne i k (by omega) hk (Ne.symm e))]
        exact hΦ k hk hlk'
       ·exact hΦ k hk hlk'
    have hst:=st (fun k=>listed.getD k false) a w (wpAny P .any ops Q fuel (listed.setIfInBounds i true)) hI (by rw[<-gd i hi'];exact h1) hcl hsm hdp hK
    unfold wpOp;simp only[ho]
    cases hg:o.guard with
    | none=>
     rw[hg] at hst;rw[Lo (by unfold Region.wanted;rw[hg])]
     exact Or.inl hst
    | some gw=>
     obtain⟨g,want⟩:=gw;rw[hg] at hst;obtain⟨b,hbv,hst⟩:=hst;have hgd:=(acy i o ho).2 g want hg;have hgi:g<i:=dlt g hgd;have hgsl:sl.getD g 0<a.tmps.size:=by
      apply Classical.byContradiction
      intro hn;rw[Qeo a hn] at hbv
      cases hbv
     have hy:yielded ops a.tmps g=some b:=by
      have hgs:ops[g]? = some ops[g]:=Nq (by omega)
      have h5:=dst g ops[g] hgs;rw[Lo (by rw[<-hts];exact hgsl)] at h5
      have h7:a.tmps[sl.getD g 0]? = some (.bool b):=by
       rw[<-hbv,Is,Nq hgsl];rfl
      unfold yielded;rw[hgs];simp only[Option.bind_some,h5,h7]
     have hw:Region.wanted o (yielded ops a.tmps)=(b == want):=by
      unfold Region.wanted;rw[hg];simp only[hy];cases b <;> cases want <;> rfl
     rw[hw]
     by_cases e:b=want
     ·rw[Lo e] at hst;rw[Lo (by rw[e];simp)]
      exact Or.inl hst
     ·rw[Le e] at hst;rw[Le (by simpa using e)]
      exact hst
 refine wp_region_any hm (core ops.size _ a0 _ (by simp) ?_ ?_ ?_ rfl rfl (fun _ _=>rfl) ?_)
 ·rw[Od (q:=fun _=>false),Qci]
  ·exact Lb _
  ·intro k hk;simp[Array.getD,hk]
 ·have hf:(fun k=>(Array.replicate ops.size false).getD k false)=fun _=>false:=by
   funext k
   by_cases hk:k<ops.size
   ·simp[Array.getD,hk]
   ·simp[Array.getD,hk]
  rw[hf];exact h0 _ rfl ⟨rfl,rfl,rfl,Lb _,fun _ _=>rfl⟩
 ·intro i k hi hk
  exfalso
  by_cases hs:i<ops.size
  ·simp[Array.getD,hs] at hi
  ·simp[Array.getD,hs] at hi
 ·intro k hk hlk
  exfalso
  have:k<ops.size:=by omega
  simp[Array.getD,this] at hlk
section
open Cv (RdC zl cU)
open Pl (pw)
theorem Qps{S:List Nat}(hp:Asc S){j:Nat}(hj:j<S.length)(x:Nat):S.getD j 0<x↔j<bl S x:=by
 constructor
 ·intro h
  by_cases hb:j<bl S x
  ·exact hb
  ·have:S.getD j 0∈S.drop (bl S x):=by
    have e:S.getD j 0=(S.drop (bl S x)).getD (j-bl S x) 0:=by rw[UZ,show bl S x+(j-bl S x)=j by omega]
    rw[e,La,Ld (by rw[LD];omega)]
    exact LN _
   have:=Qez hp this;omega
 ·intro h;have:S.getD j 0∈S.take (bl S x):=by
   rw[<-Oz 0 S h,La,Ld (by rw[Lv];omega)]
   exact LN _
  exact QgV hp this
theorem Qjk(w:World)(ao:OA)(b off len cap:Nat)(S:List Nat)(r:RdU w ao b off len S)(hp:Asc S)(hm:len<=8796093022208)(x t:Nat)(ht:bl S x=t) :
  Calls prog 158 #[.slice ao len cap,.int .u64 x] w fun e w'=>e= .returned (.int .i64 t)∧w=w':=by
 have hl:=r.hl;have htl:t<=len:=by rw[<-ht,<-hl];exact Qcd _ _
 have HR:Hid (RdU w ao b off len S):=r;have HB:Hid (∀j,j<len->(S.getD j 0<x↔j<t)):=fun j hj=>by rw[<-ht];exact Qps hp (by omega) x
 clear r hp ht hl
 go_enter func158,ntmps158;go_wp2
 go_loopg [5,6] len (fun g lo hi wr=> ∃a z:Nat,a<=t∧t<=z∧z<=len∧g=z-a∧lo= .int .i64 a∧hi= .int .i64 z∧w=wr)
 case atStart=>go_light;exact⟨0,len,Lm _,htl,Lb _,rfl,rfl,rfl,rfl⟩
 case round=>
  obtain⟨a,z,h1,h2,h3,rfl,rfl,rfl,rfl⟩:=hrel
  by_cases hlt:a<z
  ·obtain⟨d,hd⟩:∃d,(z-a)/2=d:=⟨_,rfl⟩;have hz:(a:Int)<(z:Int):=by omega
   have hsub:(z:Int)-(a:Int)=((z-a:Nat):Int):=by omega
   have hdiv:((z-a:Nat):Int)/2=(d:Int):=by omega
   have hdt:Int.tdiv ((z-a:Nat):Int) 2=(d:Int):=by rw[Int.tdiv_eq_ediv_of_nonneg (by omega)];exact hdiv
   have hmid:(a:Int)+(d:Int)=((a+d:Nat):Int):=by omega
   have hm1:a+d<len:=by omega
   have hm2:((a+d:Nat):Int)<(len:Int):=by omega
   have hm3:(0:Int)<=((a+d:Nat):Int):=by omega
   obtain rfl:=HR.out.ptr (by omega)
   have c1:=HR.out.at hm1;have hq:=HB.out (a+d) hm1;obtain⟨y,hy⟩:∃y,S.getD (a+d) 0=y:=⟨_,rfl⟩;rw[hy] at c1 hq;have hd2:a+d<z:=by omega
   have ham:a<=a+d:=by omega
   generalize a+d=m at *
   by_cases hy2:y<x
   ·have hyx:(y:Int)<(x:Int):=by omega
    have hmt:=hq.1 hy2;clear hq hy hd hdiv;go_wp2
    go_roundg (z-(m+1))
    case rel=>go_light;exact⟨m+1,z,by omega,h2,h3,rfl,by go_num,rfl,rfl⟩
    case measure=>go_light;omega
   ·have hyx:¬(y:Int)<(x:Int):=by omega
    have hmt:¬m<t:=fun h=>hy2 (hq.2 h)
    clear hq hy hd hdiv;go_wp2
    go_roundg (m-a)
    case rel=>go_light;exact⟨a,m,h1,by omega,by omega,rfl,rfl,rfl,rfl⟩
    case measure=>go_light;omega
  ·obtain rfl:a=z:=by omega
   obtain rfl:a=t:=by omega
   have hz:¬(a:Int)<(a:Int):=by omega
   clear hlt;go_wp2
   go_ret
   exact⟨rfl,rfl⟩
theorem QgB(w:World)(h k:Nat)(hh:h<=40)(hk:(k+1)*pw h<=2^40)(p:Nat)(hp:(k+1)*pw h=p) :
  Calls prog 92 #[.agg #[.int .i64 h,.int .u64 k]] w fun e w'=>e= .returned (.int .u64 p)∧Below w.heap.size w w':=by
 have hb:=bal (Lc w.heap.size w) (.cells #[.int .i64 h,.int .u64 k] 131);have hk0:(0:Int)<=(h:Int):=Lf _;have hk1:(h:Int)<64:=by omega
 have hk2:¬(h:Int)<0:=by omega
 have hkk:k+1<=2^40:=Lt (NZ _ (Pl.QA h)) hk;have e0:IntKind.u64.wrap ((k:Int)+1)=((k+1:Nat):Int):=by rw[IntKind.wrap_u64];omega
 have e1:IntKind.u64.wrap (((k:Int)+1)*(2:Int)^h)=(p:Int):=by
  have e:((k:Int)+1)*((2:Int)^h)=(p:Int):=by rw[<-hp];simp[pw]
  rw[e,IntKind.wrap_u64];omega
 clear hp hh hk hkk
 go_enter func92,ntmps92;go_wp2
 go_ret
 exact⟨rfl,hb⟩
theorem Qku{w:World}{da:OA}{db dO dc H:Nat}{D:List Nat}(h:RdU w da db dO D.length D)(hc:D.length<=dc)(hH:H<=D.length)(hn:da=none->dc=0){ax:OA}(hx:(if dc=H then da else Option.map (fun x=>x.add H) da)=ax):RdU w ax db (dO+H) (D.drop H).length (D.drop H)∧(ax=none->dc-H=0):=by
 refine⟨⟨rfl,fun h0=> ?_,fun j v hj=> ?_⟩,fun e=> ?_⟩
 ·rw[LD] at h0;rw[Le (by omega),h.ptr (by omega)] at hx
  rw[<-hx];simp[Addr.add_mid]
 ·have hj:((D.drop H).map (fun x:Nat=>Value.int .u64 x))[j]? = some v:=hj
  rw[IJ,Nx] at hj;have:=h.rng (H+j) v hj
  rwa [<-NR] at this
 ·rw[e] at hx
  split at hx
  ·omega
  ·have:da=none:=by simpa using hx
   have:=hn this;omega
theorem Qkw{w:World}{da:OA}{db dO:Nat}{D:List Nat}(h:RdU w da db dO D.length D){H:Nat}(hH:H<=D.length):RdU w da db dO (D.take H).length (D.take H):=by
 refine⟨rfl,fun h0=>h.ptr ?_,fun j v hj=> ?_⟩
 ·rw[Lv] at h0;omega
 ·refine h.rng j v ?_
  have hj:((D.take H).map (fun x:Nat=>Value.int .u64 x))[j]? = some v:=hj
  rw[N8,Nf] at hj
  split at hj
  ·exact hj
  ·cases hj
structure Gv(w:World)(GB:Nat)(v:Value)(S:List Nat)(X:LB):Prop where
 ex:∃sa sb so sc xa xb xo xc,v= .agg #[.slice sa S.length sc,.slice xa X.length xc]∧RdU w sa sb so S.length S∧RdS w xa xb xo X.length X∧S.length<=sc∧X.length<=xc∧(sa=none->sc=0)∧(xa=none->xc=0)∧(0<S.length->sb<GB)∧(0<X.length->xb<GB)
variable {GB:Nat}
theorem Gv.next{w W:World}{v:Value}{S:List Nat}{X:LB}(h:Gv w GB v S X)(hb:Below w.heap.size w W):Gv W GB v S X:=by
 obtain⟨sa,sb,so,sc,xa,xb,xo,xc,e,r1,r2,h1,h2,h3,h4⟩:=h.ex;exact⟨sa,sb,so,sc,xa,xb,xo,xc,e,r1.next hb,r2.next hb (Lb _),h1,h2,h3,h4⟩
theorem Gv.low{w W:World}{v:Value}{S:List Nat}{X:LB}(h:Gv w GB v S X)(hb:Below GB w W):Gv W GB v S X:=by
 obtain⟨sa,sb,so,sc,xa,xb,xo,xc,e,r1,r2,h1,h2,h3,h4,h5,h6⟩:=h.ex;refine⟨sa,sb,so,sc,xa,xb,xo,xc,e,?_,?_,h1,h2,h3,h4,h5,h6⟩
 ·by_cases h0:0<S.length
  ·exact r1.same (hb.block sb (h5 h0))
  ·exact⟨r1.hl,r1.ptr,fun j v hv=>absurd (List.getElem?_eq_some_iff.1 hv).1 (by show ¬j<(S.map _).length;rw[LI];omega)⟩
 ·by_cases h0:0<X.length
  ·exact r2.same (hb.block xb (h6 h0))
  ·exact⟨r2.hl,r2.ptr,fun j v hv=>absurd (List.getElem?_eq_some_iff.1 hv).1 (by rw[LI];omega),r2.sz⟩
theorem Qgy(w:World)(v:Value)(S:List Nat)(X:LB)(hg:Gv w GB v S X)(hX:X.length=S.length)(hp:Asc S)(hm:S.length<=8796093022208)(x t:Nat)(ht:bl S x=t) :
  Calls prog 91 #[v,.int .u64 x] w fun e w'=> ∃v1 v2,e= .returned (.tuple #[v1,v2])∧Gv w' GB v1 (S.take t) (X.take t)∧Gv w' GB v2 (S.drop t) (X.drop t)∧Below w.heap.size w w':=by
 obtain⟨sa,sb,so,sc,xa,xb,xo,xc,rfl,r1,r2,h1,h2,h3,h4,h5,h6⟩:=hg.ex;have htl:t<=S.length:=by rw[<-ht];exact Qcd _ _
 obtain⟨o1,ho1⟩:∃o1,Obj.cells #[.slice sa S.length sc,.slice xa X.length xc] 167 (0,0)=o1:=⟨_,rfl⟩;obtain⟨o2,ho2⟩:∃o2,Obj.cells #[.slice none 0 0,.slice none 0 0] 167 (0,0)=o2:=⟨_,rfl⟩;have hb1:=bal (Lc w.heap.size w) o1;have hb3:=bal (bal hb1 o2) o2;have HF:Calls prog 158 #[.slice sa S.length sc,.int .u64 x] (((w.alloc o1).alloc o2).alloc o2) fun e w'=>e= .returned (.int .i64 t)∧((w.alloc o1).alloc o2).alloc o2=w':=Qjk _ sa sb so S.length sc S (r1.next hb3) hp hm x t ht
 have HC:Hid (∀W,((w.alloc o1).alloc o2).alloc o2=W->(W.heap[w.heap.size]? = some o1∧W.heap[w.heap.size+1]? = some o2∧W.heap[w.heap.size+2]? = some o2)):=fun W hW=>by
  subst hW;have e1:=Lr w o1;have e2:=Lr (w.alloc o1) o2;have e3:=Lr ((w.alloc o1).alloc o2) o2;rw[LK] at e2;rw[LK,LK] at e3;refine⟨?_,?_,e3⟩
  ·rw[Cv.QQ o2 (by rw[LK,LK];omega),Cv.QQ o2 (by rw[LK];omega)];exact e1
  ·rw[Cv.QQ o2 (by rw[LK,LK];omega)];exact e2
 have HG:Hid (RdU w sa sb so S.length S∧RdS w xa xb xo X.length X∧X.length=S.length∧(sa=none->sc=0)∧(xa=none->xc=0)∧(0<S.length->sb<GB)∧(0<X.length->xb<GB)∧Below w.heap.size w (((w.alloc o1).alloc o2).alloc o2)):=⟨r1,r2,hX,h3,h4,h5,h6,hb3⟩;rw[hX] at ho1 h2;rw[<-ho1,<-ho2] at HF HC HG;clear hp ht hg hb1 hb3 r1 r2 ho1 ho2 h3 h4 h5 h6;rw[hX];clear hX
 go_enter func91,ntmps91
 go_wp2_with (go_at_call 158;with_reducible refine HF.mono ?_;rintro e w' ⟨rfl,hw3⟩)
 obtain⟨q0,q1,q2⟩:=HC.out _ hw3;have hg:=HG.out;rw[hw3] at hg;have c0:w'.cell? ⟨w.heap.size,0,none⟩=some (.slice sa S.length sc):=by rw[cell_of_row _ _ 0 _ _ (0,0) q0];rfl
 have c1:w'.cell? ⟨w.heap.size,1,none⟩=some (.slice xa S.length xc):=by rw[cell_of_row _ _ 1 _ _ (0,0) q0];rfl
 have d0:w'.cell? ⟨w.heap.size+1,0,none⟩=some (.slice none 0 0):=by rw[cell_of_row _ _ 0 _ _ (0,0) q1];rfl
 have d1:w'.cell? ⟨w.heap.size+1,1,none⟩=some (.slice none 0 0):=by rw[cell_of_row _ _ 1 _ _ (0,0) q1];rfl
 have f0:w'.cell? ⟨w.heap.size+1+1,0,none⟩=some (.slice none 0 0):=by rw[cell_of_row _ _ 0 _ _ (0,0) q2];rfl
 have f1:w'.cell? ⟨w.heap.size+1+1,1,none⟩=some (.slice none 0 0):=by rw[cell_of_row _ _ 1 _ _ (0,0) q2];rfl
 have z0:=fun j=>frozen_of_row w' (w.heap.size+1) j _ _ q1
 have z1:=fun j=>frozen_of_row w' (w.heap.size+1+1) j _ _ q2
 have HQ:=Qc hg;have HH:=Qc (Lx q1 q2);have t0:(0:Int)<=(t:Int):=Lf _;have t1:(t:Int)<=(sc:Int):=by omega
 have t2:(t:Int)<=(xc:Int):=by omega
 have t3:(t:Int)<=(S.length:Int):=by omega
 clear HF HC HG q0 q1 q2 hg hw3
 go_region
 all_goals obtain⟨ax,hax⟩:∃ax,(if sc=t then sa else Option.map (fun x=>x.add t) sa)=ax:=⟨_,rfl⟩
 all_goals obtain⟨ay,hay⟩:∃ay,(if xc=t then xa else Option.map (fun x=>x.add t) xa)=ay:=⟨_,rfl⟩
 all_goals rw[hax,hay]
 all_goals obtain⟨r1,r2,hX,h3,h4,h5,h6,hb⟩:=HQ.out
 all_goals obtain⟨q1,q2⟩:=HH.out
 all_goals have k1:=Ln _ _ 1 _ _ (.slice xa t xc) (Ln w' (w.heap.size+1) 0 _ _ (.slice sa t sc) q1)
 all_goals have g1:=((ChT.refl (fun b=>b=w.heap.size+1) w').set (w.heap.size+1) 0 (.slice sa t sc) rfl).set (w.heap.size+1) 1 (.slice xa t xc) rfl
 all_goals generalize (w'.setCell ⟨w.heap.size+1,0,none⟩ (.slice sa t sc)).setCell ⟨w.heap.size+1,1,none⟩ (.slice xa t xc)=W1 at *
 all_goals have p2:=(g1.block (w.heap.size+2) (by omega)).trans q2
 all_goals have k2:=Ln _ _ 1 _ _ (.slice ay (S.length-t) (xc-t)) (Ln W1 (w.heap.size+1+1) 0 _ _ (.slice ax (S.length-t) (sc-t)) p2)
 all_goals have g2:=(((ChT.refl (fun b=>b=w.heap.size+1+1) W1).set (w.heap.size+1+1) 0 (.slice ax (S.length-t) (sc-t)) rfl).set (w.heap.size+1+1) 1 (.slice ay (S.length-t) (xc-t)) rfl)
 all_goals generalize (W1.setCell ⟨w.heap.size+1+1,0,none⟩ (.slice ax (S.length-t) (sc-t))).setCell ⟨w.heap.size+1+1,1,none⟩ (.slice ay (S.length-t) (xc-t))=W2 at *
 all_goals have k1:=(g2.block (w.heap.size+1) (by omega)).trans k1
 all_goals have hb2:=((hb.trans (g1.below (B:=w.heap.size) (by rintro b rfl;omega))).trans (g2.below (B:=w.heap.size) (by rintro b rfl;omega))).drew
 all_goals have c0:W2.drew.cell? ⟨w.heap.size+1,0,none⟩=some (.slice sa t sc):=by rw[cell_of_row W2.drew _ 0 _ _ (0,0) k1];rfl
 all_goals have c1:W2.drew.cell? ⟨w.heap.size+1,1,none⟩=some (.slice xa t xc):=by rw[cell_of_row W2.drew _ 1 _ _ (0,0) k1];rfl
 all_goals have c2:W2.drew.cell? ⟨w.heap.size+1+1,0,none⟩=some (.slice ax (S.length-t) (sc-t)):=by rw[cell_of_row W2.drew _ 0 _ _ (0,0) k2];rfl
 all_goals have c3:W2.drew.cell? ⟨w.heap.size+1+1,1,none⟩=some (.slice ay (S.length-t) (xc-t)):=by rw[cell_of_row W2.drew _ 1 _ _ (0,0) k2];rfl
 all_goals generalize W2.drew=W3 at *
 all_goals clear k1 k2 g1 g2 p2 q1 q2 HH HQ d0 d1 f0 f1 z0 z1
 all_goals go_wp2
 all_goals refine LA (v := .tuple #[.agg #[.slice sa t sc,.slice xa t xc],.agg #[.slice ax (S.length-t) (sc-t),.slice ay (S.length-t) (xc-t)]]) (by simp[results,results91,go_sem,c0,c1,c2,c3]) rfl ⟨_,_,rfl,?_,?_,hb2⟩
 ·have l1:(S.take t).length=t:=by rw[Lv];omega
  have l2:(X.take t).length=t:=by rw[Lv];omega
  have u1:=Qkw (r1.next hb2) (H:=t) htl;have u2:=QbP (r2.next hb2 (Lb _)) (H:=t) (by omega)
  rw[l1] at u1;rw[l2] at u2;exact⟨sa,sb,so,sc,xa,xb,xo,xc,by rw[l1,l2],by rw[l1];exact u1,by rw[l2];exact u2,by omega,by omega,h3,h4,fun h=>h5 (by omega),fun h=>h6 (by omega)⟩
 ·have l1:(S.drop t).length=S.length-t:=LD;have l2:(X.drop t).length=S.length-t:=by rw[LD,hX]
  obtain⟨u1,n1⟩:=Qku (r1.next hb2) (H:=t) h1 htl h3 hax;obtain⟨u2,n2⟩:=Ud (r2.next hb2 (Lb _)) (H:=t) (by omega) (by omega) h4 hay
  exact⟨ax,sb,so+t,sc-t,ay,xb,xo+t,xc-t,by rw[l1,l2],u1,u2,by omega,by omega,n1,n2,fun h=>h5 (by omega),fun h=>h6 (by omega)⟩
end
end Go.Proofs.YtoblgjledefdbabGreatDoor
