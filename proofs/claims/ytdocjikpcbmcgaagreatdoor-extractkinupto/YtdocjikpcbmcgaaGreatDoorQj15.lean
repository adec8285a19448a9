/- Own work. -/
import Derived.Test.YtdocjikpcbmcgaaGreatDoorQj14
namespace Go.Proofs.YtdocjikpcbmcgaaGreatDoor
open Go.RowKit
attribute [local go_sem ↓] Go.wp_at_zero Go.wp_at_succ
def dep(ops:List Oper)(i k:Nat):Bool:=match ops[i]? with|some o=>o.after.toList.any (fun e=>e.on == k && Region.binds .any e)|none=>false
def Qgk(ops:List Oper)(sl ns:List Nat)(size:Nat):Bool :=
 ops.map (·.dst) == sl.map (fun t=>if t<size then some t else none) && (List.range sl.length).all (fun j=>decide (sl.getD j 0<size) || ns.contains j) && (List.range sl.length).all (fun j=>(List.range j).all fun k=>sl.getD k 0 != sl.getD j 0) &&
 (List.range ops.length).all (fun j=>match ops[j]? with|none=>false|some o=>o.after.all (fun e => !Region.binds .any e || decide (e.on<j)) && (match o.guard with|none=>true|some (g,_)=>o.after.toList.any fun e=>e.on == g && Region.binds .any e))
def Qna(P:Program)(Q:Exit->Act->World->Prop)(ops:List Oper)(sl:List Nat)(vs:List Value)(a0:Act)(I:(Nat->Bool)->World->Prop)(j:Nat)(o:Oper):Prop :=
 ∀(L:Nat->Bool) (a:Act) (w:World) (K:Act->World->Prop),I L w->L j=false->(∀i k,L i=true->dep ops i k=true->L k=true) ->
  (∀t,sl.contains t=false->a.tmps.getD t undef=a0.tmps.getD t undef) ->
  (∀k,(o.after.toList.any fun e=>e.on == k && Region.binds .any e)=true->a.tmps.getD (sl.getD k 0) undef=vs.getD k undef) ->
  (∀v w',(o.dst=none∨v=vs.getD j undef)->I (fun i=>if i=j then true else L i) w'->K (a.put o.dst v) w') ->
  match o.guard with
  | none=>o.wp P a w K Q
  | some (g,want) => ∃b,a.tmps.getD (sl.getD g 0) undef = .bool b∧(if b=want then o.wp P a w K Q else K (a.put o.dst undef) w)
theorem Qeh(a:Act){t:Nat}(h : ¬t<a.tmps.size):a.tmps.getD t undef=undef:=by simp[Array.getD,h]
theorem Qez : ∀(sl:List Nat) (vs:List Value) (a:Act) (k:Nat),k<sl.length->sl.length=vs.length->sl.getD k 0<a.tmps.size->(∀i j,i<j->j<sl.length->sl.getD i 0≠sl.getD j 0)->(Un a sl vs).tmps.getD (sl.getD k 0) undef=vs.getD k undef
 | [],_,_,_,h,_,_,_=>by simp at h
 | _::_,[],_,_,_,h,_,_=>by simp at h
 | u::sl,v::vs,a,0,_,_,hlt,hne=>by
  have hn:sl.contains u=false:=by
   cases hc:sl.contains u with
   | false=>rfl
   | true =>
    obtain⟨i,hi,hu⟩:=LZ (IE.1 hc)
    exfalso
    refine hne 0 (i+1) (by omega) (by simp;omega) ?_
    simp[List.getD_eq_getElem?_getD,List.getElem?_eq_getElem hi,hu]
  rw[Un]
  show(Un _ sl vs).tmps.getD u undef=v
  rw[OD sl vs _ u hn,QbJ _ u v (show u<a.tmps.size from hlt)]
 | u::sl,v::vs,a,k+1,hk,hl,hlt,hne=>by
  rw[Un]
  show(Un _ sl vs).tmps.getD (sl.getD k 0) undef=vs.getD k undef
  refine Qez sl vs _ k (by simpa using hk) (by simpa using hl) ?_ (fun i j hij hj => ?_)
  ·have h2:sl.getD k 0<a.tmps.size:=hlt
   simpa [Act.put] using h2
  ·have:=hne (i+1) (j+1) (by omega) (by simpa using hj)
   simpa using this
theorem QgJ{a a0:Act}{sl:List Nat}{vs:List Value}(hd:a.defers=a0.defers)(hs:a.tmps.size=a0.tmps.size)(ho : ∀t,sl.contains t=false->a.tmps.getD t undef=a0.tmps.getD t undef)
  (hv : ∀k,k<sl.length->a.tmps.getD (sl.getD k 0) undef=vs.getD k undef) (hl:sl.length=vs.length) (hne : ∀i j,i<j->j<sl.length->sl.getD i 0≠sl.getD j 0):a=Un a0 sl vs:=by
 have ht:a.tmps=(Un a0 sl vs).tmps:=by
  apply Array.ext
  ·rw[QcJ,hs]
  ·intro t h1 h2;have e1:a.tmps.getD t undef=a.tmps[t]:=by simp[Array.getD,h1]
   have e2:(Un a0 sl vs).tmps.getD t undef=(Un a0 sl vs).tmps[t]:=by simp[Array.getD,h2]
   rw[<-e1,<-e2]
   cases hc:sl.contains t with
   | false=>rw[ho t hc,OD sl vs a0 t hc]
   | true =>
    obtain⟨k,hk,hu⟩:=LZ (IE.1 hc);have e3:sl.getD k 0=t:=by rw[La,Lc hk];exact hu
    rw[<-e3,hv k hk,Qez sl vs a0 k hk hl (by rw[e3,<-hs];exact h1) hne]
 have hd':=hd.trans (QaM sl vs a0).symm
 cases a
 cases hp:Un a0 sl vs;rw[hp] at ht hd';simp only at ht hd';rw[ht,hd']
theorem Q4{P:Program}{ops:Array Oper}{Q:Exit->Act->World->Prop}{id:Nat}{a0:Act}{w0:World}(hm:P.follows .mixedOrders=true)
  (sl ns:List Nat) (vs:List Value) (hok:Qgk ops.toList sl ns a0.tmps.size=true) (hl:sl.length=vs.length) (hu : ∀j∈ns,vs.getD j undef=undef)
  (I:(Nat->Bool)->World->Prop) (h0 : ∀w,w.heap=w0.heap->Zb w0 w->I (fun _=>false) w)
  (step:QaW (Qna P Q ops.toList sl vs a0 I) 0 ops.toList)
  (fin : ∀L w,(∀k,k<sl.length->L k=true)->I L w->Q .normal (Un a0 sl vs) w):(Code.region id ops true).wp P Q a0 w0:=by
 simp only[Qgk,Bool.and_eq_true] at hok;obtain⟨⟨⟨hd,hlt⟩,hinj⟩,hacy⟩:=hok;have hd':ops.toList.map (·.dst)=sl.map (fun t=>if t<a0.tmps.size then some t else none):=by simpa using hd
 have hlen:ops.size=sl.length:=by have:=congrArg List.length hd';simpa using this
 have dst : ∀(j:Nat) (o:Oper),ops[j]? = some o->o.dst=if sl.getD j 0<a0.tmps.size then some (sl.getD j 0) else none:=fun j o ho=>by
  have h1:(ops.toList.map (·.dst))[j]? = some o.dst:=by
   rw[Nn,Ns,ho];rfl
  rw[hd',Nn] at h1;rw[La]
  cases hs:sl[j]? with
  | none=>rw[hs] at h1;cases h1
  | some x=>rw[hs] at h1;simpa using h1.symm
 have big : ∀j,j<sl.length -> ¬sl.getD j 0<a0.tmps.size->vs.getD j undef=undef:=fun j hj hn=>by
  have:=N9.1 hlt j (by simpa using hj)
  simp only[Bool.or_eq_true,decide_eq_true_eq] at this
  rcases this with h|h
  ·exact absurd h hn
  ·exact hu j (IE.1 h)
 have ne1 : ∀j k,k<j->j<sl.length->sl.getD k 0≠sl.getD j 0:=fun j k hk hj=>by
  have h1:=N9.1 hinj j (by simpa using hj)
  have h2:=N9.1 h1 k (by simpa using hk)
  simpa using h2
 have ne : ∀j k,j<sl.length->k<sl.length->j≠k->sl.getD j 0≠sl.getD k 0:=fun j k hj hk h=>by
  rcases IR j k with h'|h'
  ·exact ne1 k j h' hk
  ·exact(ne1 j k (by omega) hj).symm
 have acy : ∀(j:Nat) (o:Oper),ops[j]? = some o->(∀e∈o.after,Region.binds .any e=true->e.on<j)∧(∀g want,o.guard=some (g,want)->(o.after.toList.any fun e=>e.on == g && Region.binds .any e)=true):=fun j o ho=>by
  have hj:j<ops.size:=(Lg.1 ho).1;have h1:=N9.1 hacy j (by simpa using hj)
  rw[Ns,ho] at h1;simp only[Bool.and_eq_true] at h1;refine⟨fun e he hb => ?_,fun g want hg => ?_⟩
  ·have:=Is.1 h1.1 e he
   simpa [hb] using this
  ·have:=h1.2;rw[hg] at this;exact this
 have memsl : ∀j,j<sl.length->sl.contains (sl.getD j 0)=true:=fun j hj=>by
  rw[La,Lc hj];simp
 have core : ∀(fuel:Nat) (listed:Array Bool) (a:Act) (w:World),listed.size=ops.size->cntU (fun k=>listed.getD k false) ops.size<=fuel ->
   I (fun k=>listed.getD k false) w->(∀i k,listed.getD i false=true->dep ops.toList i k=true->listed.getD k false=true)->a.defers=a0.defers->a.tmps.size=a0.tmps.size->(∀t,sl.contains t=false->a.tmps.getD t undef=a0.tmps.getD t undef) ->
   (∀k,k<sl.length->listed.getD k false=true->a.tmps.getD (sl.getD k 0) undef=vs.getD k undef)->wpAny P .any ops Q fuel listed a w:=by
  intro fuel;have finish : ∀(listed:Array Bool) (a:Act) (w:World),(∀k,k<ops.size->listed.getD k false=true)->I (fun k=>listed.getD k false) w->a.defers=a0.defers->a.tmps.size=a0.tmps.size->(∀t,sl.contains t=false->a.tmps.getD t undef=a0.tmps.getD t undef) ->
    (∀k,k<sl.length->listed.getD k false=true->a.tmps.getD (sl.getD k 0) undef=vs.getD k undef)->Q .normal a w:=fun listed a w hall hI hde hts hsm hΦ=>by
   rw[QgJ hde hts hsm (fun k hk=>hΦ k hk (hall k (by omega))) hl (fun i j hij hj=>ne1 j i hij hj)]
   exact fin _ w (fun k hk=>hall k (by omega)) hI
  induction fuel with
  | zero =>
   intro listed a w hsz hc hI hcl hde hts hsm hΦ;have hall:=Qcs (Nat.le_zero.1 hc);refine⟨?_,finish listed a w hall hI hde hts hsm hΦ⟩
   apply IG.2
   intro i hi;obtain⟨h1,o,ho,_⟩:=mem_ready.1 hi;have hi':i<ops.size:=(Lg.1 ho).1;have h2:=hall i hi';simp[Array.getD,hsz,hi'] at h1 h2;rw[h2] at h1;cases h1
  | succ fuel ih =>
   intro listed a w hsz hc hI hcl hde hts hsm hΦ;have gd : ∀i,i<ops.size->listed.getD i true=listed.getD i false:=fun i hi=>by simp[Array.getD,hsz,hi]
   refine⟨fun hr => ?_,fun i hi => ?_⟩
   ·refine finish listed a w ?_ hI hde hts hsm hΦ
    have : ∀n,∀k,k<n->k<ops.size->listed.getD k false=true:=by
     intro n
     induction n with
     | zero=>intro k hk;omega
     | succ n ihn =>
      intro k hk hks
      by_cases hlk:listed.getD k false=true
      ·exact hlk
      ·exfalso
       have hmem:k∈Region.ready .any ops listed:=by
        refine mem_ready.2 ⟨by rw[gd k hks];simpa using hlk,ops[k],Na hks,fun e he hb => ?_⟩
        have h1:=(acy k ops[k] (Na hks)).1 e he hb;exact ihn e.on (by omega) (by omega)
       rw[hr] at hmem;cases hmem
    exact fun k hk=>this (k+1) k (by omega) hk
   ·obtain⟨h1,o,ho,hdep⟩:=mem_ready.1 hi;have hi':i<ops.size:=(Lg.1 ho).1;have hds:=dst i o ho;have st:=OJ step (by rw[Ns];exact ho)
    rw[Ll] at st;have dval : ∀k,(o.after.toList.any fun e=>e.on == k && Region.binds .any e)=true->listed.getD k false=true:=fun k hk=>by
     obtain⟨e,he,h2⟩:=Qc8 hk;simp only[Bool.and_eq_true,beq_iff_eq] at h2;obtain⟨rfl,hbnd⟩:=h2;exact hdep e he hbnd
    have dlt : ∀k,(o.after.toList.any fun e=>e.on == k && Region.binds .any e)=true->k<i:=fun k hk=>by
     obtain⟨e,he,h2⟩:=Qc8 hk;simp only[Bool.and_eq_true,beq_iff_eq] at h2;obtain⟨rfl,hbnd⟩:=h2;exact(acy i o ho).1 e he hbnd
    have hdp : ∀k,(o.after.toList.any fun e=>e.on == k && Region.binds .any e)=true->a.tmps.getD (sl.getD k 0) undef=vs.getD k undef:=fun k hk =>
     hΦ k (by have:=dlt k hk;omega) (dval k hk)
    have hfun:(fun k=>(listed.setIfInBounds i true).getD k false)=fun k=>if k=i then true else listed.getD k false:=by
     funext k
     by_cases e:k=i
     ·subst e;simp[Array.getD,hsz,hi']
     ·by_cases h:k<listed.size
      ·simp[Array.getD,h,e,Ne.symm e]
      ·simp[Array.getD,h,e]
    have hK : ∀v w',(o.dst=none∨v=vs.getD i undef)->I (fun k=>if k=i then true else listed.getD k false) w'->wpAny P .any ops Q fuel (listed.setIfInBounds i true) (a.put o.dst v) w':=fun v w' hv hI'=>by
     refine ih _ _ _ (by simp[hsz]) ?_ (by rw[hfun];exact hI') ?_ ?_ ?_ ?_ ?_
     ·have:=Qbu (p:=fun k=>listed.getD k false) (q:=fun k=>(listed.setIfInBounds i true).getD k false) (i:=i) (by rw[<-gd i hi'];exact h1) (by simp[Array.getD,hsz,hi']) (fun k hk=>by
       by_cases h:k<listed.size
       ·simp[Array.getD,h,Ne.symm hk]
       ·simp[Array.getD,h]) ops.size hi'
      omega
     ·intro x y hx hxy;have e1:(listed.setIfInBounds i true).getD x false=if x=i then true else listed.getD x false:=congrFun hfun x
      have e2:(listed.setIfInBounds i true).getD y false=if y=i then true else listed.getD y false:=congrFun hfun y
      rw[e1] at hx;rw[e2]
      by_cases ey:y=i
      ·rw[if_pos ey]
      ·rw[if_neg ey]
       by_cases ex:x=i
       ·subst ex;refine dval y ?_
        have hxy':=hxy;unfold dep at hxy';rw[Ns,ho] at hxy';exact hxy'
       ·rw[if_neg ex] at hx;exact hcl x y hx hxy
     ·rw[hds];split <;> exact hde
     ·rw[hds];split <;> simp[Act.put,hts]
     ·intro t ht;rw[hds]
      split
      ·rw[UK]
       ·exact hsm t ht
       ·intro e;have:=memsl i (by omega)
        rw[e,ht] at this;cases this
      ·exact hsm t ht
     ·intro k hk hlk
      by_cases e:k=i
      ·subst e;rw[hds]
       split
       ·rename_i hsl
        rw[QbJ _ _ _ (by rw[hts];exact hsl)]
        rcases hv with hv|hv
        ·rw[hds,if_pos hsl] at hv;cases hv
        ·exact hv
       ·rename_i hsl
        rw[big k hk hsl];exact Qeh a (by rw[hts];exact hsl)
      ·have hlk':listed.getD k false=true:=by
        have e1:(listed.setIfInBounds i true).getD k false=if k=i then true else listed.getD k false:=congrFun hfun k
        rw[e1,if_neg e] at hlk;exact hlk
       rw[hds]
       split
       ·rw[UK _ _ _ _ (ne i k (by omega) hk (Ne.symm e))]
        exact hΦ k hk hlk'
       ·exact hΦ k hk hlk'
    have hst:=st (fun k=>listed.getD k false) a w (wpAny P .any ops Q fuel (listed.setIfInBounds i true)) hI (by rw[<-gd i hi'];exact h1) hcl hsm hdp hK
    unfold wpOp;simp only[ho]
    cases hg:o.guard with
    | none =>
     rw[hg] at hst;rw[if_pos (by unfold Region.wanted;rw[hg])]
     exact Or.inl hst
    | some gw =>
     obtain⟨g,want⟩:=gw;rw[hg] at hst;obtain⟨b,hbv,hst⟩:=hst;have hgd:=(acy i o ho).2 g want hg;have hgi:g<i:=dlt g hgd;have hgsl:sl.getD g 0<a.tmps.size:=by
      apply Classical.byContradiction
      intro hn;rw[Qeh a hn] at hbv
      cases hbv
     have hy:yielded ops a.tmps g=some b:=by
      have hgs:ops[g]? = some ops[g]:=Na (by omega)
      have h5:=dst g ops[g] hgs;rw[if_pos (by rw[<-hts];exact hgsl)] at h5
      have h7:a.tmps[sl.getD g 0]? = some (.bool b):=by
       rw[<-hbv,NH,Na hgsl];rfl
      unfold yielded;rw[hgs];simp only[Option.bind_some,h5,h7]
     have hw:Region.wanted o (yielded ops a.tmps)=(b == want):=by
      unfold Region.wanted;rw[hg];simp only[hy];cases b <;> cases want <;> rfl
     rw[hw]
     by_cases e:b=want
     ·rw[if_pos e] at hst;rw[if_pos (by rw[e];simp)]
      exact Or.inl hst
     ·rw[if_neg e] at hst;rw[if_neg (by simpa using e)]
      exact hst
 refine wp_region_any hm (core ops.size _ a0 _ (by simp) ?_ ?_ ?_ rfl rfl (fun _ _=>rfl) ?_)
 ·rw[Ow (q:=fun _=>false),Qcr]
  ·exact Lb _
  ·intro k hk;simp[Array.getD,hk]
 ·have hf:(fun k=>(Array.replicate ops.size false).getD k false)=fun _=>false:=by
   funext k
   by_cases hk:k<ops.size
   ·simp[Array.getD,hk]
   ·simp[Array.getD,hk]
  rw[hf];exact h0 _ rfl ⟨rfl,rfl,rfl,Lb _,fun _ _=>rfl⟩
 ·intro i k hi hk
  exfalso
  by_cases hs:i<ops.size
  ·simp[Array.getD,hs] at hi
  ·simp[Array.getD,hs] at hi
 ·intro k hk hlk
  exfalso
  have:k<ops.size:=by omega
  simp[Array.getD,this] at hlk
section
open Cv (RdC zl cU cov)
open Pl (pw)
def Tw(w:World)(g:Nat)(h:Int)(k:Nat):Prop:=w.heap[g]? = some (.cells #[.int .i64 h,.int .u64 (k:Int)] 83 (0,0))
section
variable {w W:World} {g k:Nat} {h:Int}
theorem Tw.cells(t:Tw w g h k):w.cell? ⟨g,0,none⟩=some (.int .i64 h)∧w.cell? ⟨g,1,none⟩=some (.int .u64 (k:Int)) :=
 ⟨by rw[cell_of_row w g 0 _ _ (0,0) t];rfl,by rw[cell_of_row w g 1 _ _ (0,0) t];rfl⟩
theorem Tw.fz(t:Tw w g h k)(j:Nat):w.frozen? ⟨g,j,none⟩=false:=frozen_of_row w g j _ _ t
theorem Tw.lt(t:Tw w g h k):g<w.heap.size:=(Lg.1 t).1
theorem Tw.same(t:Tw w g h k)(hb:W.heap[g]? = w.heap[g]?):Tw W g h k:=hb.trans t
theorem Tw.next(t:Tw w g h k)(hb:Zb w W):Tw W g h k:=t.same (hb.block g t.lt)
theorem QaG(w:World)(h:Int)(k:Nat):Tw (w.alloc (.cells #[.int .i64 h,.int .u64 (k:Int)] 83)) w.heap.size h k:=heap_alloc_new w _
def putB(w:World)(g:Nat)(h:Int)(k:Nat):World:=(w.setCell ⟨g,0,none⟩ (.int .i64 h)).setCell ⟨g,1,none⟩ (.int .u64 (k:Int))
theorem Tw.put(t:Tw w g h k)(h':Int)(k':Nat):Tw (putB w g h' k') g h' k':=by
 have h0:=heap_setCell_same w g 0 _ _ (.int .i64 h') t;exact heap_setCell_same _ g 1 _ _ (.int .u64 (k':Int)) h0
theorem Qa5(w:World)(g:Nat)(h:Int)(k:Nat):ChT (fun x=>x=g) w (putB w g h k):=((ChT.refl (fun x=>x=g) w).set g 0 _ rfl).set g 1 _ rfl
end
theorem Qbn(w:World)(h k:Nat)(hk:k<2^64)(r:Nat)(hr:sb k=r) :
  Zr 132 #[.agg #[.int .i64 (h:Int),.int .u64 (k:Int)]] w (.agg #[.int .i64 (h:Int),.int .u64 (r:Int)]):=by
 have ex:bits .xor .u64 (k:Int) 1=(r:Int):=by rw[<-hr,<-QfN];exact bits_xor_u64_nat k 1 (by omega) (by decide)
 have t1:=QaG w (h:Int) k;have hb:=bal (Below.refl w.heap.size w) (.cells #[.int .i64 (h:Int),.int .u64 (k:Int)] 83);have hz:(w.alloc (.cells #[.int .i64 (h:Int),.int .u64 (k:Int)] 83)).heap.size=w.heap.size+1:=Lp ..;obtain⟨W,hW⟩:=Ze (w.alloc (.cells #[.int .i64 (h:Int),.int .u64 (k:Int)] 83));rw[hW] at t1 hb hz;have t2:=QaG W 0 0;have hb2:=bal (Below.refl W.heap.size W) (.cells #[.int .i64 0,.int .u64 ((0:Nat):Int)] 83);have t1':=t1.next hb2;rw[show((0:Nat):Int)=0 from rfl] at hb2 t1'
 have t2':Tw (W.alloc (.cells #[.int .i64 0,.int .u64 0] 83)) W.heap.size 0 0:=t2;obtain⟨W2,hW2⟩:=Ze (W.alloc (.cells #[.int .i64 0,.int .u64 0] 83));rw[hW2] at t2' hb2 t1';rw[hz] at t2';obtain⟨c0,c1⟩:=t1'.cells;obtain⟨d0,d1⟩:=t2'.cells;have f0:=t2'.fz 0;have f1:=t2'.fz 1;have hp:=t2'.put (h:Int) r;have hch:=Qa5 W2 (w.heap.size+1) (h:Int) r;unfold putB at hp hch;obtain⟨s0,s1⟩:=hp.cells;clear hk hr t2 t1
 go_enter Tryz.func132,Tryz.ntmps132;go_wp2;refine bodyPost_ret (v := .agg #[.int .i64 (h:Int),.int .u64 (r:Int)]) (by simp[results,Tryz.results132,go_sem,s0,s1]) rfl ⟨rfl,?_⟩
 exact(Qa hb hb2).trans (hch.below (by rintro b rfl;omega))
structure JS(w:World)(s0:Nat)(v u:Value)(T:List (Nat×Nat))(P:LB):Prop where
 ct:w.heap[s0+1]? = some (.cells #[v] 77 (0,0))
 cp:w.heap[s0+2]? = some (.cells #[u] 22 (0,0))
 ot:Cv.Qz w (s0+3) v (zl T)
 op:Qk w (s0+3) u P
section
variable {w W:World} {s0 q:Nat} {v u:Value} {T:List (Nat×Nat)} {P:LB}
theorem JS.lt(h:JS w s0 v u T P):s0+2<w.heap.size:=(Lg.1 h.cp).1
theorem JS.next(h:JS w s0 v u T P)(hb:Zb w W):JS W s0 v u T P:=by
 have hl:=h.lt;exact⟨(hb.block _ (by omega)).trans h.ct,(hb.block _ hl).trans h.cp,Yf h.ot hb,Yf h.op hb⟩
end
theorem Qgf{w:World}{B T s:Nat}{g cap n m:Nat}{xs ys:List Value}(h:w.ownsRow B T s (.slice (some ⟨g,0,none⟩) n cap) n (xs++ys))(hm:xs.length=m*s)(hl:m<=n):w.ownsRow B T s (.slice (some ⟨g,0,none⟩) m cap) m xs:=by
 obtain⟨h1,h2⟩:=h;refine⟨hm,?_⟩
 rcases h2 with ⟨h2,_⟩|⟨g',cap',cur,hv,hg,hh,hc,hm2,hs,hx⟩
 ·cases h2
 ·cases hv;refine .inr ⟨g,cap,cur,rfl,hg,hh,by omega,hm2,hs,?_⟩
  have e:cur.toList.take (m*s)=(cur.toList.take (n*s)).take (m*s):=by
   rw[List.take_take]
   congr 1
   have:=Lo s hl;omega
  rw[e,hx,<-hm,List.take_left]
theorem Og{w:World}{B T s n m c:Nat}{ao:OA}{xs:List Value}(h:w.ownsRow B T s (.slice ao m c) n xs):m=n:=by
 rcases h.2 with ⟨h2,h3⟩|⟨_,_,_,h2,_⟩
 ·cases h2;exact h3.symm
 ·cases h2;rfl
theorem QbY{w:World}{B T s n m c:Nat}{ao:OA}{xs:List Value}(h:w.ownsRow B T s (.slice ao m c) n xs)(hn:0<n) : ∃g,ao=some ⟨g,0,none⟩∧B<=g∧g<w.heap.size:=by
 rcases h.2 with ⟨_,h3⟩|⟨g,_,_,h2,hg,hh,_⟩
 ·omega
 ·cases h2;exact⟨g,rfl,hg,(Lg.1 hh).1⟩
theorem QeR(w:World){ops:Array Oper}{o:Oper}{a:Act}{K:Act->World->Prop}{Q:Exit->Act->World->Prop}{E:Prop}(hgd:o.guard=none)
  (s x:Operand) (t:TypeId) (hop:o.op=Op.call { callee:=Callee.builtin Builtin.append,args:=#[s,x],argTypes:=#[t,t] })
  (B:Nat) (e:TypeId) (i:TypeInfo) (z:Value) (size bytes:Nat) (h1:Tryz.prog.underlying t=some (.slice e)) (h2:Tryz.prog.info? e=some i) (h3:i.zero=some z) (h4:i.size=size) (h5:i.bytes=bytes) (h6:z.cells.size=size) (h7:0<size)
  (v:Value) (n:Nat) (xs:List Value) (hs:a.eval s=v) (hown:w.ownsRow B e size v n xs) (ad:Addr) (m cap:Nat) (news:List Value) (hx:a.eval x = .slice (some ad) m cap) (hn:news.length=m*size) (hc : ∀j u,news[j]? = some u->w.cell? (ad.add j)=some u) (h1c : ∀u∈news,u.oneCell'=true)
  (b1:n+m<=maxLen) (b2:(n+m)*bytes<=140737488355328) (hB:B<=w.heap.size)
  (hK : ∀v' w',w'.ownsRow B e size v' (n+m) (xs++news)->w.grownBy w' v.ownBlock->K (a.put o.dst v') w'):if Region.wanted o (yielded ops a.tmps)=true then Oper.wp Tryz.prog o a w K Q else E:=by
 have hw:Region.wanted o (yielded ops a.tmps)=true:=by simp[Region.wanted,hgd]
 rw[if_pos hw];obtain⟨v',w',hrun,r1,r2,_⟩:=run_append_own (P:=Tryz.prog) w B t o.type e i z size bytes h1 h2 h3 h4 h5 h6 h7 v n xs hown ad m cap news hn hc h1c b1 b2 hB;unfold Oper.wp;simp[execOp,hop,resolve,invoke,builtin,hs,hx,hrun,Result.andThen];exact hK v' w' r1 r2
theorem QjF(w:World){ops:Array Oper}{o:Oper}{a:Act}{K:Act->World->Prop}{Q:Exit->Act->World->Prop}{E:Prop}(hgd:o.guard=none)
  (s x:Operand) (hop:o.op=Op.call { callee:=Callee.builtin Builtin.append,args:=#[s,x],argTypes:=#[77,77] })
  (B:Nat) (v:Value) (T:List (Nat×Nat)) (hs:a.eval s=v) (hown:Cv.Qz w B v (zl T)) (g h k:Nat) (hx:a.eval x = .slice (some ⟨g,0,none⟩) 1 1) (hc:Tw w g (h:Int) k) (hl:T.length<=1000) (hB:B<=w.heap.size)
  (hK : ∀v' w',Cv.Qz w' B v' (zl (T++[(h,k)]))->w.grownBy w' v.ownBlock->K (a.put o.dst v') w'):if Region.wanted o (yielded ops a.tmps)=true then Oper.wp Tryz.prog o a w K Q else E:=by
 obtain⟨i0,hi,hz0,hz1,hz2⟩:=info_parts Cv.Tryz.infoB;obtain⟨c0,c1⟩:=hc.cells;refine QeR w hgd s x 77 hop B 83 i0 (.agg #[.int .i64 0,.int .u64 0]) 2 16 Tryz.underlying77 hi hz0 hz1 hz2 rfl (by decide) v _ _ hs hown ⟨g,0,none⟩ 1 1 [.int .i64 (h:Int),.int .u64 (k:Int)] hx rfl (fun j u hj => ?_) (by intro u hu;simp at hu;rcases hu with rfl|rfl <;> rfl) (by rw[Cv.Qq];unfold maxLen;omega) (by rw[Cv.Qq];omega) hB (fun v' w' r1 r2=>hK v' w' ?_ r2)
 ·match j,hj with
  | 0,hj=>simp at hj;subst hj;simpa [Addr.add] using c0
  | 1,hj=>simp at hj;subst hj;simpa [Addr.add] using c1
 ·rw[Cv.YL,Cv.Qz,Cv.Ou,Ld];exact r1
theorem QjG(w:World){ops:Array Oper}{o:Oper}{a:Act}{K:Act->World->Prop}{Q:Exit->Act->World->Prop}{E:Prop}(hgd:o.guard=none)
  (s x:Operand) (hop:o.op=Op.call { callee:=Callee.builtin Builtin.append,args:=#[s,x],argTypes:=#[22,22] })
  (B:Nat) (v:Value) (P:LB) (hs:a.eval s=v) (hown:Qk w B v P) (g:Nat) (d:BA) (hx:a.eval x = .slice (some ⟨g,0,none⟩) 1 1) (hc:w.cell? ⟨g,0,none⟩=some (.string d)) (hl:P.length<=1000) (hB:B<=w.heap.size)
  (hK : ∀v' w',Qk w' B v' (P++[d])->w.grownBy w' v.ownBlock->K (a.put o.dst v') w'):if Region.wanted o (yielded ops a.tmps)=true then Oper.wp Tryz.prog o a w K Q else E:=by
 obtain⟨i0,hi,hz0,hz1,hz2⟩:=info_parts Tryz.infoS;refine QeR w hgd s x 22 hop B 9 i0 (.string ByteArray.empty) 1 16 Tryz.underlying22 hi hz0 hz1 hz2 rfl (by decide) v _ _ hs hown ⟨g,0,none⟩ 1 1 [.string d] hx rfl (fun j u hj => ?_) (by intro u hu;simp at hu;rcases hu with rfl;rfl) (by unfold maxLen;omega) (by omega) hB (fun v' w' r1 r2=>hK v' w' ?_ r2)
 ·match j,hj with
  | 0,hj=>simp at hj;subst hj;simpa [Addr.add] using hc
 ·rw[Qk,LK,Ld];exact r1
abbrev dgF(F:Nat->Nat->BA)(T:List (Nat×Nat)):LB:=T.map fun b=>F b.1 b.2
structure JL(w wr:World)(s0 q:Nat)(F:Nat->Nat->BA)(h k h' k':Nat)(v u:Value):Prop where
 js:JS wr s0 v u (cov 0 (k' * pw h')) (dgF F (cov 0 (k' * pw h')))
 tw:Tw wr q (h':Int) k'
 hv : ∀g,v.ownBlock=some g->g<q
 en:(k'+1)*pw h'=(k+1)*pw h
 hh:h<=h'
 be:Below (s0+1) w wr
 hq:s0+2<q
section
variable {w wr W:World} {s0 q:Nat} {F:Nat->Nat->BA} {h k h' k':Nat} {v u:Value}
theorem JL.hu(j:JL w wr s0 q F h k h' k' v u) : ∀g,u.ownBlock=some g->g≠q:=Qjd j.js.op j.tw (by decide)
theorem JL.next(j:JL w wr s0 q F h k h' k' v u)(hb:Zb wr W):JL w W s0 q F h k h' k' v u :=
 ⟨j.js.next hb,j.tw.next hb,j.hv,j.en,j.hh,j.be.trans (hb.mono (by have:=j.js.lt;omega)),j.hq⟩
end
theorem Qga{w:World}{s0:Nat}{v u:Value}{C:List (Nat×Nat)}{h k:Nat}{P:LB}{d:BA}(j:JS w s0 v u (C++[(h,k)]) (P++[d])) : ∃g cap gu cu,v = .slice (some ⟨g,0,none⟩) (C.length+1) cap∧u = .slice (some ⟨gu,0,none⟩) (P.length+1) cu∧C.length+1<=cap∧P.length+1<=cu∧w.cell? ⟨g,C.length*2,none⟩=some (.int .i64 (h:Int))∧w.cell? ⟨g,C.length*2+1,none⟩=some (.int .u64 (k:Int))∧w.cell? ⟨gu,P.length,none⟩=some (.string d):=by
 have o1:=j.ot;have o2:=j.op;obtain⟨ao,n,c,rfl⟩:=Cv.Qh o1;obtain⟨au,nu,cu,rfl⟩:=Cv.Qh o2;have l1:=Og o1;have l2:=Og o2;obtain⟨g,rfl,_,_⟩:=QbY o1 (by rw[Cv.Qq,Ld];simp)
 obtain⟨gu,rfl,_,_⟩:=QbY o2 (by rw[Ld];simp)
 rw[Cv.Qq,Ld,L3] at l1;rw[Ld,L3] at l2;subst l1 l2;have e1:=o1.cells (g:=g) rfl;have e2:=o2.cells (g:=gu) rfl;obtain⟨f1,f2⟩:=Cv.Qc9 (zl (C++[(h,k)])) C.length (h:Int) k (by rw[Cv.YL,LM (by rw[Cv.Qq];exact Lb _),Cv.Qq,ND];rfl)
 have f1:=e1 _ _ f1;have f2:=e1 _ _ f2;have f3:=e2 P.length (.string d) (by rw[LK,LM (by rw[Ln];exact Lb _),Ln,ND];rfl)
 rw[Addr.add_mid,Ll,LY] at f1 f2;rw[Addr.add_mid,Ll] at f3;have c1:C.length+1<=c:=by
  rcases o1.2 with ⟨h1,_⟩|⟨_,_,_,h1,_,_,h2,_⟩
  ·cases h1
  ·obtain⟨_,_,e3⟩:=NJ h1;rw[Cv.Qq,Ld,L3,<-e3] at h2;exact h2
 have c2:P.length+1<=cu:=by
  rcases o2.2 with ⟨h1,_⟩|⟨_,_,_,h1,_,_,h2,_⟩
  ·cases h1
  ·obtain⟨_,_,e3⟩:=NJ h1;rw[Ld,L3,<-e3] at h2;exact h2
 exact⟨g,c,gu,cu,rfl,rfl,c1,c2,f1,f2,f3⟩
theorem JL.up{w wr:World}{s0 q:Nat}{F:Nat->Nat->BA}{h k h' a g cap gu cu:Nat}(C:List (Nat×Nat))(hC:cov 0 (2*a*pw h')=C)(hl:(k+1)*pw h<=2^40)(j:JL w wr s0 q F h k h' (2*a+1) (.slice (some ⟨g,0,none⟩) (C.length+1) cap) (.slice (some ⟨gu,0,none⟩) (C.length+1) cu))(W:World)(hW:(((putB wr q ((h'+1:Nat):Int) a).setCell ⟨s0+1,0,none⟩ (.slice (some ⟨g,0,none⟩) C.length cap)).setCell ⟨s0+2,0,none⟩ (.slice (some ⟨gu,0,none⟩) C.length cu))=W) :
  JL w W s0 q F h k (h'+1) a (.slice (some ⟨g,0,none⟩) C.length cap) (.slice (some ⟨gu,0,none⟩) C.length cu):=by
 have hen:=j.en;have ht:cov 0 ((2*a+1)*pw h')=C++[(h',2*a)]:=by
  rw[<-hC];refine Qde h' a (Lm ?_ hl)
  rw[<-hen];exact Lo _ (by omega)
 have ht2:cov 0 (a*pw (h'+1))=C:=by rw[Cv.QJ,hC]
 have hjs:=j.js;rw[ht] at hjs;have hne1:=(Lq hjs.ot g rfl).1;have hne2:=(Lq hjs.op gu rfl).1;have hgq:g<q:=j.hv g rfl;have huq:gu≠q:=j.hu gu rfl;have hq:=j.hq;have ch1:=Qa5 wr q ((h'+1:Nat):Int) a;obtain⟨W1,hW1⟩:=Ze (putB wr q ((h'+1:Nat):Int) a);have tw1:=j.tw.put ((h'+1:Nat):Int) a;rw[hW1] at ch1 hW tw1;have b1 : ∀b,b≠q->W1.heap[b]? = wr.heap[b]? := fun b hb=>ch1.block b hb
 have c1:=(b1 (s0+1) (by omega)).trans hjs.ct
 have c2:=(b1 (s0+2) (by omega)).trans hjs.cp
 have x1:=heap_setCell_same W1 (s0+1) 0 _ _ (.slice (some ⟨g,0,none⟩) C.length cap) c1;obtain⟨W2,hW2⟩:=Ze (W1.setCell ⟨s0+1,0,none⟩ (.slice (some ⟨g,0,none⟩) C.length cap));have k2:ChT (fun b=>b=s0+1) W1 W2:=by rw[<-hW2];exact(ChT.refl _ _).set (s0+1) 0 _ rfl
 rw[hW2] at x1 hW;have c2':=(k2.block (s0+2) (by omega)).trans c2
 have x2:=heap_setCell_same W2 (s0+2) 0 _ _ (.slice (some ⟨gu,0,none⟩) C.length cu) c2';have k3:ChT (fun b=>b=s0+2) W2 W:=by rw[<-hW];exact(ChT.refl _ _).set (s0+2) 0 _ rfl
 rw[hW] at x2;have bb : ∀b,b≠q->b≠s0+1->b≠s0+2->W.heap[b]? = wr.heap[b]? := fun b h1 h2 h3=>((k3.block b h3).trans (k2.block b h2)).trans (b1 b h1)
 have ot:Cv.Qz W (s0+3) (.slice (some ⟨g,0,none⟩) C.length cap) (zl C):=by
  have o:=hjs.ot;rw[Cv.YL,Cv.Qz,Cv.Ou,Ld] at o;have o':=Qgf (n:=(zl C).length+1) (m:=(zl C).length) (by rw[Cv.Qq] at o ⊢;exact o) (Cv.Qw (zl C)) (by omega)
  rw[Cv.Qq] at o';have o2:Cv.Qz wr (s0+3) (.slice (some ⟨g,0,none⟩) C.length cap) (zl C):=by
   show wr.ownsRow (s0+3) 83 2 _ (zl C).length (Cv.cB (zl C))
   rw[Cv.Qq];exact o'
  refine Qj o2 fun b hb _ => ?_
  cases hb;exact bb g (by omega) (by omega) (by omega)
 have op:Qk W (s0+3) (.slice (some ⟨gu,0,none⟩) C.length cu) (dgF F C):=by
  have o:=hjs.op;rw[dgF,LK,Qk,LK,Ld] at o;have o':=Qgf (n:=(dgF F C).length+1) (m:=(dgF F C).length) (by rw[Ln] at o ⊢;exact o) (by rw[Ln,NN]) (by omega)
  rw[Ln] at o';have o2:Qk wr (s0+3) (.slice (some ⟨gu,0,none⟩) C.length cu) (dgF F C):=by
   show wr.ownsRow (s0+3) 9 1 _ (dgF F C).length ((dgF F C).map Value.string)
   rw[Ln];exact o'
  refine Qj o2 fun b hb _ => ?_
  cases hb;exact bb gu huq (by omega) (by omega)
 refine⟨?_,?_,j.hv,?_,by have:=j.hh;omega,?_,hq⟩
 ·rw[ht2];exact⟨(k3.block (s0+1) (by omega)).trans x1,x2,ot,op⟩
 ·exact(tw1.same (k2.block q (by omega))).same (k3.block q (by omega))
 ·rw[<-hen,Cv.QJ,show 2*(a+1)=2*a+1+1 by omega]
 ·have hz1:Below (s0+1) wr W1:=ch1.below (by rintro b rfl;omega)
  have hz2:Below (s0+1) W1 W2:=k2.below (by rintro b rfl;omega)
  have hz3:Below (s0+1) W2 W:=k3.below (by rintro b rfl;omega)
  exact((j.be.trans hz1).trans hz2).trans hz3
end
def QZ(P:Program)(Q:Exit->Act->World->Prop)(ops:List Oper)(I:(Nat->Bool)->Act->World->Prop)(j:Nat)(o:Oper):Prop :=
 ∀(L:Nat->Bool) (a:Act) (w:World) (K:Act->World->Prop),I L a w->L j=false->(∀i k,L i=true->dep ops i k=true->L k=true) ->
  (∀k,(o.after.toList.any fun e=>e.on == k && Region.binds .any e)=true->L k=true) ->
  (∀v w',I (fun i=>if i=j then true else L i) (a.put o.dst v) w'->K (a.put o.dst v) w')->o.wp P a w K Q
theorem YH{P:Program}{ops:Array Oper}{Q:Exit->Act->World->Prop}{id:Nat}{a0:Act}{w0:World}(hm:P.follows .mixedOrders=true)
  (hok:(List.range ops.size).all (fun j=>match ops[j]? with|none=>false|some o=>o.after.all (fun e => !Region.binds .any e || decide (e.on<j)) && o.guard.isNone)=true)
  (I:(Nat->Bool)->Act->World->Prop) (h0 : ∀w,w.heap=w0.heap->Zb w0 w->I (fun _=>false) a0 w)
  (step:QaW (QZ P Q ops.toList I) 0 ops.toList)
  (fin : ∀L a w,(∀k,k<ops.size->L k=true)->I L a w->Q .normal a w):(Code.region id ops true).wp P Q a0 w0:=by
 have acy : ∀(j:Nat) (o:Oper),ops[j]? = some o->(∀e∈o.after,Region.binds .any e=true->e.on<j)∧o.guard=none:=fun j o ho=>by
  have hj:j<ops.size:=(Lg.1 ho).1;have h1:=N9.1 hok j (by simpa using hj)
  rw[ho] at h1;simp only[Bool.and_eq_true] at h1;refine⟨fun e he hb => ?_,by simpa using h1.2⟩
  have:=Is.1 h1.1 e he
  simpa [hb] using this
 have core : ∀(fuel:Nat) (listed:Array Bool) (a:Act) (w:World),listed.size=ops.size->cntU (fun k=>listed.getD k false) ops.size<=fuel ->
   I (fun k=>listed.getD k false) a w->(∀i k,listed.getD i false=true->dep ops.toList i k=true->listed.getD k false=true)->wpAny P .any ops Q fuel listed a w:=by
  intro fuel
  induction fuel with
  | zero =>
   intro listed a w hsz hc hI hcl;have hall:=Qcs (Nat.le_zero.1 hc);refine⟨?_,fin _ a w (fun k hk=>hall k hk) hI⟩
   apply IG.2
   intro i hi;obtain⟨h1,o,ho,_⟩:=mem_ready.1 hi;have hi':i<ops.size:=(Lg.1 ho).1;have h2:=hall i hi';simp[Array.getD,hsz,hi'] at h1 h2;rw[h2] at h1;cases h1
  | succ fuel ih =>
   intro listed a w hsz hc hI hcl;have gd : ∀i,i<ops.size->listed.getD i true=listed.getD i false:=fun i hi=>by simp[Array.getD,hsz,hi]
   refine⟨fun hr => ?_,fun i hi => ?_⟩
   ·refine fin _ a w ?_ hI
    have : ∀n,∀k,k<n->k<ops.size->listed.getD k false=true:=by
     intro n
     induction n with
     | zero=>intro k hk;omega
     | succ n ihn =>
      intro k hk hks
      by_cases hlk:listed.getD k false=true
      ·exact hlk
      ·exfalso
       have hmem:k∈Region.ready .any ops listed:=by
        refine mem_ready.2 ⟨by rw[gd k hks];simpa using hlk,ops[k],Na hks,fun e he hb => ?_⟩
        have h1:=(acy k ops[k] (Na hks)).1 e he hb;exact ihn e.on (by omega) (by omega)
       rw[hr] at hmem;cases hmem
    exact fun k hk=>this (k+1) k (by omega) hk
   ·obtain⟨h1,o,ho,hdep⟩:=mem_ready.1 hi;have hi':i<ops.size:=(Lg.1 ho).1;have st:=OJ step (by rw[Ns];exact ho)
    rw[Ll] at st;have dval : ∀k,(o.after.toList.any fun e=>e.on == k && Region.binds .any e)=true->listed.getD k false=true:=fun k hk=>by
     obtain⟨e,he,h2⟩:=Qc8 hk;simp only[Bool.and_eq_true,beq_iff_eq] at h2;obtain⟨rfl,hbnd⟩:=h2;exact hdep e he hbnd
    have hfun:(fun k=>(listed.setIfInBounds i true).getD k false)=fun k=>if k=i then true else listed.getD k false:=by
     funext k
     by_cases e:k=i
     ·subst e;simp[Array.getD,hsz,hi']
     ·by_cases h:k<listed.size
      ·simp[Array.getD,h,e,Ne.symm e]
      ·simp[Array.getD,h,e]
    have hK : ∀v w',I (fun k=>if k=i then true else listed.getD k false) (a.put o.dst v) w'->wpAny P .any ops Q fuel (listed.setIfInBounds i true) (a.put o.dst v) w':=fun v w' hI'=>by
     refine ih _ _ _ (by simp[hsz]) ?_ (by rw[hfun];exact hI') ?_
     ·have:=Qbu (p:=fun k=>listed.getD k false) (q:=fun k=>(listed.setIfInBounds i true).getD k false) (i:=i) (by rw[<-gd i hi'];exact h1) (by simp[Array.getD,hsz,hi']) (fun k hk=>by
       by_cases h:k<listed.size
       ·simp[Array.getD,h,Ne.symm hk]
       ·simp[Array.getD,h]) ops.size hi'
      omega
     ·intro x y hx hxy;have e1:(listed.setIfInBounds i true).getD x false=if x=i then true else listed.getD x false:=congrFun hfun x
      have e2:(listed.setIfInBounds i true).getD y false=if y=i then true else listed.getD y false:=congrFun hfun y
      rw[e1] at hx;rw[e2]
      by_cases ey:y=i
      ·rw[if_pos ey]
      ·rw[if_neg ey]
       by_cases ex:x=i
       ·subst ex;refine dval y ?_
        have hxy':=hxy;unfold dep at hxy';rw[Ns,ho] at hxy';exact hxy'
       ·rw[if_neg ex] at hx;exact hcl x y hx hxy
    have hst:=st (fun k=>listed.getD k false) a w (wpAny P .any ops Q fuel (listed.setIfInBounds i true)) hI (by rw[<-gd i hi'];exact h1) hcl dval hK
    unfold wpOp;simp only[ho];rw[if_pos (by unfold Region.wanted;rw[(acy i o ho).2])]
    exact Or.inl hst
 refine wp_region_any hm (core ops.size _ a0 _ (by simp) ?_ ?_ ?_)
 ·rw[Ow (q:=fun _=>false),Qcr]
  ·exact Lb _
  ·intro k hk;simp[Array.getD,hk]
 ·have hf:(fun k=>(Array.replicate ops.size false).getD k false)=fun _=>false:=by
   funext k
   by_cases hk:k<ops.size
   ·simp[Array.getD,hk]
   ·simp[Array.getD,hk]
  rw[hf];exact h0 _ rfl ⟨rfl,rfl,rfl,Lb _,fun _ _=>rfl⟩
 ·intro i k hi hk
  exfalso
  by_cases hs:i<ops.size
  ·simp[Array.getD,hs] at hi
  ·simp[Array.getD,hs] at hi
end Go.Proofs.YtdocjikpcbmcgaaGreatDoor
