/- Own work. -/
import Derived.Test.YtoblgjledefdbaaGreatDoorQm10
import Derived.Test.YtoblgjledefdbaaGreatDoorQm12
set_option maxRecDepth 100000
namespace Go.Proofs.YtoblgjledefdbaaGreatDoor
open Go.RowKit
open Go.Proofs.Tryz
namespace St
theorem Ya(a:Act)(t s:Nat)(v:Value)(h:t<a.tmps.size):(a.put (some t) v).tmps.getD s undef=if s=t then v else a.tmps.getD s undef:=by
 by_cases e:s=t
 ·subst e;rw[Lk rfl];simp[Act.put,Array.getD,h]
 ·rw[Le e]
  by_cases hs:s<a.tmps.size
  ·simp[Act.put,Array.getD,hs,Ne.symm e]
  ·simp[Act.put,Array.getD,hs]
structure S8(W:World)(a0:Act)(V:Nat->Value)(A B:List UInt8)(L:Nat->Bool)(a:Act)(w:World):Prop where
 df:a.defers=a0.defers
 sz:a.tmps.size=62
 ot : ∀t,t≠8->t≠9->(t<38∨45<t)->a.tmps.getD t undef=a0.tmps.getD t undef
 be:Below W.heap.size W w
 vl : ∀j,j<8->L j=true->a.tmps.getD (38+j) undef=V j
 p8:L 8=true -> ∃p,a.tmps.getD 8 undef = .pointer (some ⟨p,0,none⟩)∧W.heap.size<=p∧Sx w p (if L 10 then A else z64)
 p9:L 9=true -> ∃p,a.tmps.getD 9 undef = .pointer (some ⟨p,0,none⟩)∧W.heap.size<=p∧Sx w p (if L 11 then B else z64)
 ne:L 8=true->L 9=true->a.tmps.getD 8 undef≠a.tmps.getD 9 undef
section
variable {W w w':World} {a0 a:Act} {V:Nat->Value} {A B:List UInt8} {L:Nat->Bool} {Q:Exit->Act->World->Prop} {ops:List Oper} {ty:TypeId} {ps:String} {af:Array Edge}
theorem S8.put(h:S8 W a0 V A B L a w){j:Nat}(hj:j<8)(hb:Below w.heap.size w w'):S8 W a0 V A B (fun i=>if i=j then true else L i) (a.put (some (38+j)) (V j)) w':=by
 have hs:38+j<a.tmps.size:=by rw[h.sz];omega
 have e8:(if 8=j then true else L 8)=L 8:=Le (by omega)
 have e9:(if 9=j then true else L 9)=L 9:=Le (by omega)
 have xA:(if 10=j then true else L 10)=L 10:=Le (by omega)
 have xB:(if 11=j then true else L 11)=L 11:=Le (by omega)
 refine⟨h.df,by simp[Act.put,h.sz],fun t h1 h2 h3 => ?_,Qa h.be hb,fun i hi hL => ?_,?_,?_,?_⟩
 ·rw[Ya a _ _ _ hs,Le (by omega)];exact h.ot t h1 h2 h3
 ·rw[Ya a _ _ _ hs]
  by_cases e:i=j
  ·subst e;rw[Lk rfl]
  ·rw[Le (by omega)]
   rw[Le e] at hL;exact h.vl i hi hL
 ·simp only[e8,xA];intro q;obtain⟨p,h1,h2,h3⟩:=h.p8 q;exact⟨p,by rw[Ya a _ _ _ hs,Le (by omega)];exact h1,h2,h3.next hb⟩
 ·simp only[e9,xB];intro q;obtain⟨p,h1,h2,h3⟩:=h.p9 q;exact⟨p,by rw[Ya a _ _ _ hs,Le (by omega)];exact h1,h2,h3.next hb⟩
 ·simp only[e8,e9];intro q r;rw[Ya a _ _ _ hs,Le (by omega),Ya a _ _ _ hs,Le (by omega)]
  exact h.ne q r
theorem Qfb{bx k:Nat}{j:Nat}(hj:j<8)(h2:a0.tmps.getD 2 undef = .pointer (some ⟨bx,0,none⟩))(hk:k<2)(hV:V j = .pointer (some ⟨bx,k,none⟩)) :
  J6 prog Q ops (S8 W a0 V A B) j { dst:=some (38+j),op:=Op.fieldAddr 129 (Operand.tmp 2) k,type:=ty,pos:=ps,after:=af,guard:=none } := by
 intro L a w K hI _ _ _ hK;have t2:=hI.ot 2 (by omega) (by omega) (.inl (by omega))
 rw[h2] at t2;have hF:=hI.put hj (Lb _ _);rw[hV] at hF
 show Oper.wp _ _ a w K _
 rcases(by omega:k=0∨k=1) with rfl|rfl
 ·go_simp
  exact hK _ _ hF
 ·go_simp
  exact hK _ _ hF
theorem Qhn{bx k i:Nat}{j:Nat}{v:Value}(hj:j<8)(hi:i<8)(hVi:V i = .pointer (some ⟨bx,k,none⟩))(hV:V j=v)(d:(af.toList.any fun e=>e.on == i && Region.binds .any e)=true)(hc : ∀w,Below W.heap.size W w->w.cell? ⟨bx,k,none⟩=some v)(n c:Nat)(q:OA)(hv:v = .slice q n c)(s:Nat)(hs:s=38+i) :
  J6 prog Q ops (S8 W a0 V A B) j { dst:=some (38+j),op:=Op.load 127 (Operand.tmp s),type:=ty,pos:=ps,after:=af,guard:=none } := by
 intro L a w K hI _ _ hdep hK;subst hs;have t2:=hI.vl i hi (hdep i d);rw[hVi] at t2;have xA:=hc w hI.be;subst hv;have hF:=hI.put hj (Lb _ _);rw[hV] at hF
 show Oper.wp _ _ a w K _
 go_simp
 exact hK _ _ hF
theorem Qho{j:Nat}{n:Int}(hj:j<8)(h7:a0.tmps.getD 7 undef = .int .i64 n)(hV:V j = .int .i64 n) :
  J6 prog Q ops (S8 W a0 V A B) j { dst:=some (38+j),op:=Op.move (Operand.tmp 7),type:=ty,pos:=ps,after:=af,guard:=none } := by
 intro L a w K hI _ _ _ hK;have t2:=hI.ot 7 (by omega) (by omega) (.inl (by omega))
 rw[h7] at t2;have hF:=hI.put hj (Lb _ _);rw[hV] at hF
 show Oper.wp _ _ a w K _
 go_simp
 exact hK _ _ hF
theorem Qhm{i k:Nat}{j:Nat}{v u:Value}{l:List UInt8}(hj:j<8)(hi:i<8)(hk:k<8)(hVi:V i=v)(hVk:V k=u)(hV:V j=sv l)(d1:(af.toList.any fun e=>e.on == i && Region.binds .any e)=true)(d2:(af.toList.any fun e=>e.on == k && Region.binds .any e)=true)
  (hc : ∀w,Below W.heap.size W w->Calls prog 104 #[v,u] w fun e w'=>e = .returned (sv l)∧Below w.heap.size w w') (s t:Nat) (hs:s=38+i) (ht:t=38+k) :
  J6 prog Q ops (S8 W a0 V A B) j { dst:=some (38+j),op:=Op.call { callee:=Callee.value (Operand.func 104),args:=#[Operand.tmp s,Operand.tmp t],argTypes:=#[127,3] },type:=ty,pos:=ps,after:=af,guard:=none } := by
 intro L a w K hI _ _ hdep hK;subst hs ht;have t1:=hI.vl i hi (hdep i d1);have t2:=hI.vl k hk (hdep k d2);rw[hVi] at t1;rw[hVk] at t2
 show Oper.wp _ _ a w K _
 go_simp
 refine(hc w hI.be).mono ?_
 rintro e w' ⟨rfl,hb⟩;have hF:=hI.put hj hb;rw[hV] at hF;exact hK _ _ hF
theorem Qag{o:Oper}{K:Act->World->Prop}(hop:o.op=Op.alloc 185)(hK : ∀w',Sx w' w.heap.size z64->Below w.heap.size w w'->K (a.put o.dst (.pointer (some ⟨w.heap.size,0,none⟩))) w'):Oper.wp prog o a w K Q:=by
 have hz:=Qcd w;unfold Oper.wp;simp[execOp,hop,Instr.alloc,newVar,hz,Result.andThen,sv,Value.cells];exact hK _ (Qk8 w z64 Qai) (bal (Lb _ _) _)
theorem Qah{o:Oper}{K:Act->World->Prop}(p x:Operand)(hop:o.op=Op.store 185 p x)(g:Nat)(l l':List UInt8)
  (hp:a.eval p = .pointer (some ⟨g,0,none⟩)) (hx:a.eval x=sv l') (h:Sx w g l) (hl:l'.length=64)
  (hK : ∀w',Sx w' g l'->Upo (fun x=>x=g) w w'->w'.heap.size=w.heap.size->K (a.put o.dst undef) w'):Oper.wp prog o a w K Q:=by
 refine wp_store_mid 185 p x hop g 0 (cY l').toArray hp hx (by simp only[List.size_toArray,Qp,hl];exact h.thr) (by rw[NG,Qp,hl];exact Tryz.sizeSec) (all_oneCell_toArray (Og l')) ?_
 exact hK _ (h.set hl) (Ub (S:=fun x=>x=g) (.inl rfl) _ _ _ (Upo.refl _ _)) (QaC _ _ _ _)
theorem Qoz(hd:dep ops 10 8=true):J6 prog Q ops (S8 W a0 V A B) 8 { dst:=some 8,op:=Op.alloc 185,type:=ty,pos:=ps,after:=af,guard:=none } := by
 intro L a w K hI hj hcl _ hK;have xA:L 10=false:=by
  cases e:L 10
  ·rfl
  ·rw[hcl 10 8 e hd] at hj;cases hj
 refine Qag rfl fun w' hs hb=>hK _ _ ?_
 have hz:8<a.tmps.size:=by rw[hI.sz];omega
 refine⟨hI.df,by simp[Act.put,hI.sz],fun t h1 h2 h3 => ?_,Qa hI.be hb,fun i hi hL => ?_,fun _ => ?_,fun q => ?_,fun _ q => ?_⟩
 ·rw[Ya a _ _ _ hz,Le h1];exact hI.ot t h1 h2 h3
 ·rw[Ya a _ _ _ hz,Le (by omega)]
  rw[Le (by omega)] at hL
  exact hI.vl i hi hL
 ·refine⟨w.heap.size,by rw[Ya a _ _ _ hz,Lk rfl],hI.be.size,?_⟩
  have:(if (10:Nat)=8 then true else L 10)=false:=by rw[Le (by omega)];exact xA
  simp only[this];exact hs
 ·rw[Le (by omega)] at q
  obtain⟨p,h1,h2,h3⟩:=hI.p9 q;exact⟨p,by rw[Ya a _ _ _ hz,Le (by omega)];exact h1,h2,by rw[Le (by omega : ¬(11=8))];exact h3.next hb⟩
 ·rw[Le (by omega)] at q
  obtain⟨p,h1,h2,h3⟩:=hI.p9 q;rw[Ya a _ _ _ hz,Lk rfl,Ya a _ _ _ hz,Le (by omega),h1]
  intro e;have:=h3.ty.lt;injection e with e
  injection e with e
  injection e with e _ _
  omega
theorem QoA(hd:dep ops 11 9=true):J6 prog Q ops (S8 W a0 V A B) 9 { dst:=some 9,op:=Op.alloc 185,type:=ty,pos:=ps,after:=af,guard:=none } := by
 intro L a w K hI hj hcl _ hK;have xA:L 11=false:=by
  cases e:L 11
  ·rfl
  ·rw[hcl 11 9 e hd] at hj;cases hj
 refine Qag rfl fun w' hs hb=>hK _ _ ?_
 have hz:9<a.tmps.size:=by rw[hI.sz];omega
 refine⟨hI.df,by simp[Act.put,hI.sz],fun t h1 h2 h3 => ?_,Qa hI.be hb,fun i hi hL => ?_,fun q => ?_,fun _ => ?_,fun q _ => ?_⟩
 ·rw[Ya a _ _ _ hz,Le h2];exact hI.ot t h1 h2 h3
 ·rw[Ya a _ _ _ hz,Le (by omega)]
  rw[Le (by omega)] at hL
  exact hI.vl i hi hL
 ·rw[Le (by omega)] at q
  obtain⟨p,h1,h2,h3⟩:=hI.p8 q;exact⟨p,by rw[Ya a _ _ _ hz,Le (by omega)];exact h1,h2,by rw[Le (by omega : ¬(10=9))];exact h3.next hb⟩
 ·refine⟨w.heap.size,by rw[Ya a _ _ _ hz,Lk rfl],hI.be.size,?_⟩
  have:(if (11:Nat)=9 then true else L 11)=false:=by rw[Le (by omega)];exact xA
  simp only[this];exact hs
 ·rw[Le (by omega)] at q
  obtain⟨p,h1,h2,h3⟩:=hI.p8 q;rw[Ya a _ _ _ hz,Le (by omega),Ya a _ _ _ hz,Lk rfl,h1]
  intro e;have:=h3.ty.lt;injection e with e
  injection e with e
  injection e with e _ _
  omega
theorem Qcm{B g:Nat}{w w1 w2:World}(h:Below B w w1)(hu:Upo (fun x=>x=g) w1 w2)(hB:B<=w1.heap.size)(hg:B<=g):Below B w w2 :=
 ⟨hu.os.trans h.os,hu.tape.trans h.tape,hu.output.trans h.output,Lu h.size hu.size,fun b hb=>(hu.block b (by omega) (fun q=>by omega)).trans (h.block b hb)⟩
theorem QmX(hA:A.length=64)(hV:V 3=sv A)(d1:(af.toList.any fun e=>e.on == 8 && Region.binds .any e)=true)(d2:(af.toList.any fun e=>e.on == 3 && Region.binds .any e)=true) :
  J6 prog Q ops (S8 W a0 V A B) 10 { dst:=none,op:=Op.store 185 (Operand.tmp 8) (Operand.tmp 41),type:=ty,pos:=ps,after:=af,guard:=none } := by
 intro L a w K hI hj hcl hdep hK;have h8:=hdep 8 d1;obtain⟨p,h1,h2,h3⟩:=hI.p8 h8;have t3:=hI.vl 3 (by omega) (hdep 3 d2)
 rw[hV] at t3;refine Qah (Operand.tmp 8) (Operand.tmp 41) rfl p _ A h1 t3 h3 hA fun w' hs hu hz=>hK _ _ ?_
 have xA:Below W.heap.size W w':=Qcm hI.be hu hI.be.size h2;refine⟨hI.df,hI.sz,hI.ot,xA,fun i hi hL => ?_,fun _=>⟨p,h1,h2,?_⟩,fun q => ?_,fun q r => ?_⟩
 ·rw[Le (by omega)] at hL;exact hI.vl i hi hL
 ·simpa using hs
 ·rw[Le (by omega)] at q
  obtain⟨p',e1,e2,e3⟩:=hI.p9 q;refine⟨p',e1,e2,?_⟩
  rw[Le (by omega : ¬(11=10))]
  refine e3.same (hu.block p' e3.ty.lt fun e => ?_)
  exact hI.ne h8 q (by rw[h1,e1,e])
 ·rw[Le (by omega)] at q r
  exact hI.ne q r
theorem QmY(hB:B.length=64)(hV:V 7=sv B)(d1:(af.toList.any fun e=>e.on == 9 && Region.binds .any e)=true)(d2:(af.toList.any fun e=>e.on == 7 && Region.binds .any e)=true) :
  J6 prog Q ops (S8 W a0 V A B) 11 { dst:=none,op:=Op.store 185 (Operand.tmp 9) (Operand.tmp 45),type:=ty,pos:=ps,after:=af,guard:=none } := by
 intro L a w K hI hj hcl hdep hK;have h9:=hdep 9 d1;obtain⟨p,h1,h2,h3⟩:=hI.p9 h9;have t3:=hI.vl 7 (by omega) (hdep 7 d2)
 rw[hV] at t3;refine Qah (Operand.tmp 9) (Operand.tmp 45) rfl p _ B h1 t3 h3 hB fun w' hs hu hz=>hK _ _ ?_
 have xA:Below W.heap.size W w':=Qcm hI.be hu hI.be.size h2;refine⟨hI.df,hI.sz,hI.ot,xA,fun i hi hL => ?_,fun q => ?_,fun _=>⟨p,h1,h2,?_⟩,fun q r => ?_⟩
 ·rw[Le (by omega)] at hL;exact hI.vl i hi hL
 ·rw[Le (by omega)] at q
  obtain⟨p',e1,e2,e3⟩:=hI.p8 q;refine⟨p',e1,e2,?_⟩
  rw[Le (by omega : ¬(10=11))]
  refine e3.same (hu.block p' e3.ty.lt fun e => ?_)
  exact hI.ne q h9 (by rw[h1,e1,e])
 ·simpa using hs
 ·rw[Le (by omega)] at q r
  exact hI.ne q r
theorem S8.fin(h:S8 W a0 V A B L a w)(hL : ∀k,k<12->L k=true)(h0:a0.tmps.size=62) : ∃p8 p9,a=UT a0 [38,39,40,41,42,43,44,45,8,9] [V 0,V 1,V 2,V 3,V 4,V 5,V 6,V 7,.pointer (some ⟨p8,0,none⟩),.pointer (some ⟨p9,0,none⟩)]∧Sx w p8 A∧Sx w p9 B∧W.heap.size<=p8∧W.heap.size<=p9∧p8≠p9∧Below W.heap.size W w:=by
 obtain⟨p8,a1,a2,a3⟩:=h.p8 (hL 8 (by omega))
 obtain⟨p9,b1,b2,b3⟩:=h.p9 (hL 9 (by omega))
 rw[hL 10 (by omega)] at a3
 rw[hL 11 (by omega)] at b3
 have xB:=h.ne (hL 8 (by omega)) (hL 9 (by omega))
 refine⟨p8,p9,QhE h.df (by rw[h.sz,h0]) (fun t ht => ?_) (fun k hk => ?_) rfl (fun i j hij hj => ?_),by simpa using a3,by simpa using b3,a2,b2,fun e=>xB (by rw[a1,b1,e]),h.be⟩
 ·have:t ∉ [38,39,40,41,42,43,44,45,8,9]:=by simpa using ht
  simp only[List.mem_cons,List.not_mem_nil,or_false,not_or] at this;exact h.ot t (by omega) (by omega) (by omega)
 ·have xC:k<10:=hk
  rcases(by omega:k<8∨k=8∨k=9) with h1|h1|h1
  ·have e:=h.vl k h1 (hL k (by omega))
   rcases(by omega:k=0∨k=1∨k=2∨k=3∨k=4∨k=5∨k=6∨k=7) with rfl|rfl|rfl|rfl|rfl|rfl|rfl|rfl <;> exact e
  ·subst h1;exact a1
  ·subst h1;exact b1
 ·have xA:j<10:=hj;have : ∀x,x<10->[38,39,40,41,42,43,44,45,8,9].getD x 0=if x<8 then 38+x else x:=by decide
  rw[this i (by omega),this j xA]
  split <;> split <;> omega
theorem QmN{P:Program}{ops:Array Oper}{id:Nat}{w0:World}(hm:P.follows .mixedOrders=true)
  (hok:(List.range ops.size).all (fun j=>match ops[j]? with|none=>false|some o=>o.after.all (fun e => !Region.binds .any e || decide (e.on<j)) && o.guard.isNone)=true)
  (V:Nat->Value) (A B:List UInt8) (step:QaS (J6 P Q ops.toList (S8 w0 a0 V A B)) 0 ops.toList) (h62:a0.tmps.size=62) (h12:ops.size=12)
  (fin : ∀p8 p9 w,Sx w p8 A->Sx w p9 B->w0.heap.size<=p8->w0.heap.size<=p9->p8≠p9->Below w0.heap.size w0 w->Q .normal (UT a0 [38,39,40,41,42,43,44,45,8,9] [V 0,V 1,V 2,V 3,V 4,V 5,V 6,V 7,.pointer (some ⟨p8,0,none⟩),.pointer (some ⟨p9,0,none⟩)]) w):(Code.region id ops true).wp P Q a0 w0:=by
 refine QaR hm hok (S8 w0 a0 V A B) (fun Z _ hZ=>⟨rfl,h62,fun _ _ _ _=>rfl,hZ,fun _ _ h=>(Nq h).elim,fun h=>(Nq h).elim,fun h=>(Nq h).elim,fun h=>(Nq h).elim⟩) step ?_
 intro L a8 w8 hall hI;obtain⟨p8,p9,rfl,x8,x9,g8,g9,xB,xA⟩:=hI.fin (fun k hk=>hall k (by rw[h12];exact hk)) h62
 exact fin p8 p9 w8 x8 x9 g8 g9 xB xA
end
end St
end Go.Proofs.YtoblgjledefdbaaGreatDoor
