/- Own work. -/
import Derived.Test.YtipcenbndhnnhaaGreatDoorQc36
namespace Go.Proofs.YtipcenbndhnnhaaGreatDoor
open Pl (pw pw_succ pw_pos pw_zero)
open Cv (tno All Til But)
abbrev He:Type:=(Nat×Nat)×ByteArray
def Fn (K:List He):Prop := ∀ e∈K,∀ e'∈K,e.1=e'.1→e.2=e'.2
def insB (h k:Nat) (e:He):Bool:=decide (e.1.1<h) && decide (e.1.2 / 2^(h - e.1.1)=k)
theorem Fn.filter {K:List He} (h:Fn K) (p:He→Bool):Fn (K.filter p):=fun e he e' he'=>h e (List.mem_filter.1 he).1 e' (List.mem_filter.1 he').1
theorem up_div {a h x k:Nat} (ha:a≤h) (hx:x / 2^(h - a)=k):x / 2^(h+1 - a)=k / 2:=by
 rw [show h+1 - a=(h - a)+1 by omega,Nat.pow_succ,← Nat.div_div_eq_div_mul,hx]
theorem Tl.some {c:Nat} {K:List He} {h k:Nat} {v:ByteArray} (ht:Tl c K h k v) (hf:Fn K) : ∀ e∈K,e.1=(h,k)→e.2=v:=by
 intro e he h1
 cases h with
 | zero=>exact hf e he _ ht h1
 | succ h =>
  rcases ht with ht | ⟨hno,_⟩
  ·exact hf e he _ ht h1
  ·exact absurd (show ((h+1,k),e.2)∈K by rw [← h1]; exact he) (hno e.2)
theorem Tl.keep {c:Nat} {K:List He} {p:He→Bool} : ∀ {h k:Nat} {v:ByteArray},Tl c K h k v→(∀ e∈K,e.1.1≤h→e.1.2 / 2^(h - e.1.1)=k→p e=true)→Tl c (K.filter p) h k v:=by
 intro h
 induction h with
 | zero =>
  intro k v ht hp
  exact List.mem_filter.2 ⟨ht,hp _ ht (Nat.le_refl _) (by simp)⟩
 | succ h ih =>
  intro k v ht hp
  rcases ht with ht | ⟨hno,x,y,hx,hy,hv⟩
  ·exact .inl (List.mem_filter.2 ⟨ht,hp _ ht (Nat.le_refl _) (by simp)⟩)
  ·refine .inr ⟨fun u hu=>hno u (List.mem_filter.1 hu).1,x,y,ih hx fun e he h1 h2=>hp e he (by omega) ?_,ih hy fun e he h1 h2=>hp e he (by omega) ?_,hv⟩
   ·rw [up_div h1 h2]; omega
   ·rw [up_div h1 h2]; omega
theorem Tl.mem {c:Nat} {K:List He} : ∀ {h k:Nat} {v:ByteArray},Tl c K h k v → ∃ e,e∈K:=by
 intro h
 induction h with
 | zero=>intro k v ht; exact ⟨_,ht⟩
 | succ h ih =>
  intro k v ht
  rcases ht with ht | ⟨_,x,y,hx,_⟩
  ·exact ⟨_,ht⟩
  ·exact ih hx
theorem Tl.size {c:Nat} (hc:c≤32) {K:List He} (hK : ∀ e∈K,e.2.size≤32) : ∀ {h k:Nat} {v:ByteArray},Tl c K h k v→v.size≤32:=by
 intro h k v ht
 cases h with
 | zero=>exact hK _ ht
 | succ h =>
  rcases ht with ht | ⟨_,x,y,_,_,rfl⟩
  ·exact hK _ ht
  ·rw [dg_size hc]; exact hc
theorem Tl.down {c:Nat} {K:List He} {h k:Nat} {v:ByteArray} (ht:Tl c K h k v) (hno : ∀ e∈K,e.1≠(h,k)) : ∃ g x y,h=g+1∧v=dg c (nodeT x y)∧Tl c (K.filter (insB (g+1) k)) g (2 * k) x∧Tl c (K.filter (insB (g+1) k)) g (2 * k+1) y:=by
 cases h with
 | zero=>exact absurd rfl (hno _ ht)
 | succ g =>
  rcases ht with ht | ⟨_,x,y,hx,hy,hv⟩
  ·exact absurd rfl (hno _ ht)
  ·refine ⟨g,x,y,rfl,hv,hx.keep fun e he h1 h2 => ?_,hy.keep fun e he h1 h2 => ?_⟩
   ·rw [insB,Bool.and_eq_true]; exact ⟨decide_eq_true (by omega),decide_eq_true (by rw [up_div h1 h2]; omega)⟩
   ·rw [insB,Bool.and_eq_true]; exact ⟨decide_eq_true (by omega),decide_eq_true (by rw [up_div h1 h2]; omega)⟩
def knS (c:Nat) (S:List Nat) (X:List ByteArray):List He:=(S.zip X).map fun p=>((0,p.1),dg c (leafT p.2))
theorem knS_len (c:Nat) (S:List Nat) (X:List ByteArray) (h:X.length=S.length):(knS c S X).length=S.length:=by
 rw [knS,List.length_map,List.length_zip,h,Nat.min_self]
theorem knS_at (c:Nat) {S:List Nat} {X:List ByteArray} (h:X.length=S.length) {j:Nat} (hj:j<S.length):(knS c S X)[j]? = some ((0,S.getD j 0),dg c (leafT (X.getD j ByteArray.empty))):=by
 have hz:(S.zip X)[j]? = some (S[j],X[j]'(by omega)):=List.getElem?_zip_eq_some.2 ⟨List.getElem?_eq_getElem hj,List.getElem?_eq_getElem (show j<X.length by omega)⟩
 rw [knS,List.getElem?_map,hz,List.getD_eq_getElem?_getD,List.getElem?_eq_getElem hj,List.getD_eq_getElem?_getD,List.getElem?_eq_getElem (show j<X.length by omega)]
 rfl
theorem zip_at {R:List (Nat×Nat)} {D:List ByteArray} (h:D.length=R.length) {j:Nat} (hj:j<R.length):(R.zip D)[j]? = some (R.getD j (0,0),D.getD j ByteArray.empty):=by
 have hz:(R.zip D)[j]? = some (R[j],D[j]'(by omega)):=List.getElem?_zip_eq_some.2 ⟨List.getElem?_eq_getElem hj,List.getElem?_eq_getElem (show j<D.length by omega)⟩
 rw [hz,List.getD_eq_getElem?_getD,List.getElem?_eq_getElem hj,List.getD_eq_getElem?_getD,List.getElem?_eq_getElem (show j<D.length by omega)]
 rfl
theorem zip_len {R:List (Nat×Nat)} {D:List ByteArray} (h:D.length=R.length):(R.zip D).length=R.length:=by rw [List.length_zip,h,Nat.min_self]
theorem til_all {A:Nat→Prop} {q:Nat} : ∀ {L:List (Nat×Nat)} {p:Nat},Til A q p L → ∀ b∈L,p≤b.2 * pw b.1∧All A b.1 b.2
 | [],_,_,b,hb=>by cases hb
 | m::L,p,h,b,hb=>by
  obtain ⟨h1,h2,h3,h4,h5,h6⟩:=h
  rcases List.mem_cons.1 hb with rfl | hb
  ·exact ⟨h1,h4⟩
  ·have:=til_all h6 b hb
   have h7:=Cv.blk_lt m.1 m.2
   exact ⟨by omega,this.2⟩
theorem til_unlike {A:Nat→Prop} {q:Nat} : ∀ {L:List (Nat×Nat)} {p:Nat},Til A q p L → ∀ i j,i<j→j<L.length→L.getD i (0,0)≠L.getD j (0,0)
 | [],_,_,i,j,_,hj=>absurd hj (Nat.not_lt_zero j)
 | m::L,p,h,i,j,hij,hj=>by
  obtain ⟨h1,h2,h3,h4,h5,h6⟩:=h
  match i,j,hij with
  | 0,j+1,_ =>
   intro e
   have hj':j<L.length:=by rw [List.length_cons] at hj; omega
   have hm:L.getD j (0,0)∈L:=by rw [List.getD_eq_getElem?_getD,List.getElem?_eq_getElem hj']; exact List.getElem_mem _
   have h8:=(til_all h6 _ hm).1
   have e':m=L.getD j (0,0):=e
   rw [← e'] at h8
   have h7:=Cv.blk_lt m.1 m.2
   omega
  | i+1,j+1,hij=>exact til_unlike h6 i j (by omega) (by rw [List.length_cons] at hj; omega)
section
variable {c n:Nat} {S:List Nat} {X D:List ByteArray}
theorem kn_mem (hX:X.length=S.length) {R:List (Nat×Nat)} (hD:D.length=R.length) {e:He} (he:e∈knS c S X++R.zip D):(∃ j,j<S.length∧e=((0,S.getD j 0),dg c (leafT (X.getD j ByteArray.empty)))) ∨ ∃ j,j<R.length∧e=(R.getD j (0,0),D.getD j ByteArray.empty):=by
 rcases List.mem_append.1 he with he | he
 ·obtain ⟨j,hj,hv⟩:=List.getElem_of_mem he
  rw [knS_len c S X hX] at hj
  refine .inl ⟨j,hj,?_⟩
  have:=knS_at c hX hj
  rw [List.getElem?_eq_getElem (by rw [knS_len c S X hX]; exact hj),hv] at this
  exact Option.some.inj this
 ·obtain ⟨j,hj,hv⟩:=List.getElem_of_mem he
  rw [zip_len hD] at hj
  refine .inr ⟨j,hj,?_⟩
  have:=zip_at hD hj
  rw [List.getElem?_eq_getElem (by rw [zip_len hD]; exact hj),hv] at this
  exact Option.some.inj this
theorem asc_unlike (hp:Asc S) {i j:Nat} (hi:i<S.length) (hj:j<S.length) (he:S.getD i 0=S.getD j 0):i=j:=by
 rw [List.getD_eq_getElem?_getD,List.getElem?_eq_getElem hi,List.getD_eq_getElem?_getD,List.getElem?_eq_getElem hj] at he
 have he:S[i]=S[j]:=he
 have hw:=List.pairwise_iff_getElem.1 hp
 rcases Nat.lt_trichotomy i j with h | h | h
 ·have:=hw i j hi hj h; omega
 ·exact h
 ·have:=hw j i hj hi h; omega
theorem kn_fn (he:Cv.errS n S=0) (hX:X.length=S.length) (hD:D.length=(Cv.rst 0 n S).length):Fn (knS c S X++(Cv.rst 0 n S).zip D):=by
 obtain ⟨h40,_,_,hc⟩:=Cv.errS_ok he
 have hp:=chain_asc hc
 have ht:=Cv.rst_but n S h40 hc
 obtain ⟨R,hR⟩ : ∃ R,Cv.rst 0 n S=R:=⟨_,rfl⟩
 rw [hR] at hD ht ⊢
 have mixed : ∀ i j,i<S.length→j<R.length→(0,S.getD i 0)≠R.getD j (0,0):=fun i j hi hj e=>by
  have hm:R.getD j (0,0)∈R:=by rw [List.getD_eq_getElem?_getD,List.getElem?_eq_getElem hj]; exact List.getElem_mem _
  have:=(til_all ht _ hm).2
  rw [← e] at this
  have h2:=this (S.getD i 0) (by simp [pw]) (by simp [pw])
  exact h2.2 (by rw [List.getD_eq_getElem?_getD,List.getElem?_eq_getElem hi]; exact List.getElem_mem _)
 intro e h1 e' h2 heq
 rcases kn_mem hX hD h1 with ⟨i,hi,rfl⟩ | ⟨i,hi,rfl⟩ <;> rcases kn_mem hX hD h2 with ⟨j,hj,rfl⟩ | ⟨j,hj,rfl⟩
 ·obtain rfl:=asc_unlike hp hi hj (congrArg Prod.snd heq)
  rfl
 ·exact absurd heq (mixed i j hi hj)
 ·exact absurd heq.symm (mixed j i hj hi)
 ·have heq:R.getD i (0,0)=R.getD j (0,0):=heq
  rcases Nat.lt_trichotomy i j with h | h | h
  ·exact absurd heq (til_unlike ht i j h hj)
  ·rw [h]
  ·exact absurd heq.symm (til_unlike ht j i h hi)
theorem kn_tl (he:Cv.errS n S=0) (hX:X.length=S.length) (hD:D.length=(Cv.rst 0 n S).length) : ∀ j,j<(Cv.dnL 41 0 n).length→Tl c (knS c S X++(Cv.rst 0 n S).zip D) ((Cv.dnL 41 0 n).getD j (0,0)).1 ((Cv.dnL 41 0 n).getD j (0,0)).2 ((pB c (Cv.dnL 41 0 n) S X D).getD j ByteArray.empty):=by
 obtain ⟨h40,_,_,hc⟩:=Cv.errS_ok he
 have hp:=chain_asc hc
 have hrow:Cv.Row n 0 (Cv.dnL 41 0 n):=by rw [← Cv.cov_zero n h40]; exact Cv.cov_row 0 n (Nat.zero_le _) h40
 have hfr:Fr 0 n S:=fun i hi=>Cv.chain_mem hc i hi
 have ht:=Cv.rst_but n S h40 hc
 have hfB:fB (Cv.dnL 41 0 n) S=Cv.rst 0 n S:=by rw [fB_flat hrow hp hfr,← Cv.rest_ref n S h40 hc]
 refine pB_tl c _ _ 0 S X D hrow hp hfr (fun e hm h0 i hi hin => ?_) (fun j hj => ?_) (fun j hj => ?_)
 ·rcases kn_mem hX hD hm with ⟨j,hj,rfl⟩ | ⟨j,hj,rfl⟩
  ·exact absurd h0 (Nat.lt_irrefl 0)
  ·have hm:(Cv.rst 0 n S).getD j (0,0)∈Cv.rst 0 n S:=by rw [List.getD_eq_getElem?_getD,List.getElem?_eq_getElem hj]; exact List.getElem_mem _
   exact ((til_all ht _ hm).2 i hin.1 hin.2).2 hi
 ·exact List.mem_append_left _ (List.mem_of_getElem? (knS_at c hX hj))
 ·rw [hfB] at hj ⊢
  exact List.mem_append_right _ (List.mem_of_getElem? (zip_at hD hj))
end
end Go.Proofs.YtipcenbndhnnhaaGreatDoor
namespace Go.Proofs.YtipcenbndhnnhaaGreatDoor
open Go.RowKit
open Cv (RdC)
attribute [local go_sem ↓] Go.wp_at_zero Go.wp_at_succ
theorem row_nextH {w W:World} {B T s n:Nat} {v:Value} {xs:List Value} (h:w.ownsRow B T s v n xs) (hb:Below w.heap.size w W):W.ownsRow B T s v n xs :=
 keep_row h fun g hg _=>hb.block g (World.ownsRow.lt h g hg).2
theorem Tryz.infoH:(Tryz.prog.info? 177).map (fun i=>(i.zero,i.size,i.bytes))=some (some (.agg #[.int .i64 0,.int .u64 0,.string ByteArray.empty]),3,32):=by kernel_rfl
def cH:List He→List Value
 | []=>[]
 | e::r => .int .i64 (e.1.1:Int) :: .int .u64 (e.1.2:Int) :: .string e.2::cH r
theorem cH_len (l:List He):(cH l).length=l.length * 3:=by
 induction l with
 | nil=>rfl
 | cons b r ih=>simp [cH,ih]; omega
theorem cH_app (l m:List He):cH (l++m)=cH l++cH m:=by
 induction l with
 | nil=>rfl
 | cons b r ih=>simp [cH,ih]
theorem cH_one (l:List He) : ∀ u∈cH l,u.oneCell'=true:=by
 induction l with
 | nil=>intro u hu; cases hu
 | cons b r ih =>
  intro u hu
  simp [cH] at hu
  rcases hu with rfl | rfl | rfl | hu
  ·rfl
  ·rfl
  ·rfl
  ·exact ih u hu
theorem cH_get (l:List He) (j:Nat) (e:He) (hj:l[j]? = some e):(cH l)[j * 3]? = some (.int .i64 (e.1.1:Int))∧(cH l)[j * 3+1]? = some (.int .u64 (e.1.2:Int))∧(cH l)[j * 3+2]? = some (.string e.2):=by
 induction l generalizing j with
 | nil=>simp at hj
 | cons b r ih =>
  cases j with
  | zero=>simp at hj; subst hj; exact ⟨rfl,rfl,rfl⟩
  | succ j =>
   have:=ih j (by simpa using hj)
   rw [show (j+1) * 3=j * 3+1+1+1 by omega]
   simpa [cH] using this
abbrev OwnH (w:World) (B:Nat) (v:Value) (l:List He):Prop:=w.ownsRow B 177 3 v l.length (cH l)
abbrev dH:He:=((0,0),ByteArray.empty)
structure RdH (w:World) (ao:Option Addr) (g n:Nat) (l:List He):Prop where
 len:l.length=n
 addr:0<n→ao=some ⟨g,0,none⟩
 cell : ∀ j,j<n→w.cell? ⟨g,j * 3,none⟩=some (.int .i64 ((l.getD j dH).1.1:Nat))∧w.cell? ⟨g,j * 3+1,none⟩=some (.int .u64 ((l.getD j dH).1.2:Nat))∧w.cell? ⟨g,j * 3+2,none⟩=some (.string (l.getD j dH).2)
theorem RdH.next {w W:World} {ao:Option Addr} {g n:Nat} {l:List He} (r:RdH w ao g n l) (h:Below w.heap.size w W):RdH W ao g n l :=
 ⟨r.len,r.addr,fun j hj=>by
  obtain ⟨h1,h2,h3⟩:=r.cell j hj
  exact ⟨(h.cell (p:=⟨g,j * 3,none⟩) (World.block_lt_of_cell? w _ h1)).trans h1,(h.cell (p:=⟨g,j * 3+1,none⟩) (World.block_lt_of_cell? w _ h2)).trans h2,(h.cell (p:=⟨g,j * 3+2,none⟩) (World.block_lt_of_cell? w _ h3)).trans h3⟩⟩
theorem own_rdH {w:World} {B:Nat} {v:Value} {l:List He} (h:OwnH w B v l) : ∃ ao g cap,v = .slice ao l.length cap∧RdH w ao g l.length l:=by
 have h0:=h
 obtain ⟨h1,h2⟩:=h
 rcases h2 with ⟨rfl,h2⟩ | ⟨g,cap,cur,rfl,hg,hh,hc1,hc2,hc3,hc4⟩
 ·exact ⟨none,0,0,by rw [h2],rfl,fun h=>by omega,fun j hj=>by omega⟩
 ·refine ⟨some ⟨g,0,none⟩,g,cap,rfl,rfl,fun _=>rfl,fun j hj => ?_⟩
  have he:l[j]? = some (l.getD j dH):=by rw [List.getD_eq_getElem?_getD,List.getElem?_eq_getElem hj]; rfl
  obtain ⟨g1,g2,g3⟩:=cH_get l j _ he
  have hcs:=h0.cells (g:=g) rfl
  have k1:=hcs _ _ g1
  have k2:=hcs _ _ g2
  have k3:=hcs _ _ g3
  rw [Addr.add_mid,Nat.zero_add] at k1 k2 k3
  exact ⟨k1,k2,k3⟩
theorem rdc_H (w:World) (e:He):RdC (w.alloc (.cells #[.int .i64 (e.1.1:Int),.int .u64 (e.1.2:Int),.string e.2] 177)) (.slice (some ⟨w.heap.size,0,none⟩) 1 1) 1 (cH [e]):=by
 refine ⟨some ⟨w.heap.size,0,none⟩,1,rfl,(fun h=>by cases h),fun ad ha j c hj => ?_⟩
 cases ha
 rw [Addr.add_mid,Nat.zero_add,cell_of_row _ _ _ _ _ (0,0) (heap_alloc_new w _)]
 match j,hj with
 | 0,hj=>exact hj
 | 1,hj=>exact hj
 | 2,hj=>exact hj
theorem wpList_append_H (w:World) {ops:Array Oper} {rest:List Oper} {o:Oper} {a:Act} {Q:Exit→Act→World→Prop}
  (hg:o.guard=none) (s x:Operand) (hop:o.op=Op.call { callee:=Callee.builtin Builtin.append,args:=#[s,x],argTypes:=#[136,136] })
  (B:Nat) (v:Value) (L:List He) (hs:a.eval s=v) (hown:OwnH w B v L) (u:Value) (M:List He) (hx:a.eval x=u) (hr:RdC w u M.length (cH M))
  (hlen:L.length+M.length≤1099511627776) (hB:B≤w.heap.size)
  (hK : ∀ v' w',OwnH w' B v' (L++M)→w.grownBy w' v.ownBlock→wpList Tryz.prog ops Q rest (a.put o.dst v') w'):wpList Tryz.prog ops Q (o::rest) a w:=by
 obtain ⟨i0,hi,hz0,hz1,hz2⟩:=info_parts Tryz.infoH
 refine Cv.wpList_append_ap w hg s x _ hop B 177 i0 (.agg #[.int .i64 0,.int .u64 0,.string ByteArray.empty]) 3 32 Tryz.underlying136 hi hz0 hz1 hz2 rfl (by decide) v L.length (cH L) hs hown u M.length (cH M) hx hr (cH_len M) (cH_one M) (by unfold maxLen; omega) (by omega) hB ?_
 intro v' w' h
 refine hK v' w' ?_ h.grown
 rw [OwnH,cH_app,List.length_append]
 exact h.own
theorem filter_next {p:He→Bool} (K:List He) (j:Nat) (h:j<K.length):(K.take (j+1)).filter p=(K.take j).filter p++(if p (K.getD j dH) then [K.getD j dH] else []):=by
 have e:K.take (j+1)=K.take j++[K.getD j dH]:=by rw [List.take_add_one,List.getD_eq_getElem?_getD,List.getElem?_eq_getElem h]; rfl
 rw [e,List.filter_append]
 congr 1
 by_cases hp:p (K.getD j dH)=true
 ·rw [List.filter_cons_of_pos hp,if_pos hp]; rfl
 ·rw [List.filter_cons_of_neg hp,if_neg hp]; rfl
def UpC (k:Int) (h:Nat):Prop := ∀ (kk:Nat),(kk+1) * 2^h≤2^40 → ∀ (K:List He) (v:ByteArray) (w:World) (ao:Option Addr) (g cap:Nat),Tr w→RdH w ao g K.length K→K.length≤100000000→Fn K→Tl (clk k) K h kk v→(∀ e∈K,e.1.1≤40∧e.1.2<2^40∧e.2.size≤32) →
 Calls Tryz.prog 141 #[.int .i64 k,.agg #[.int .i64 (h:Int),.int .u64 (kk:Int)],.slice ao K.length cap] w fun e w'=>e = .returned (.tuple #[.string v,.bool true])∧Below w.heap.size w w'
set_option maxRecDepth 100000 in
set_option maxHeartbeats 2000000 in
theorem rup_step (k:Int) (h:Nat) (hh:h≤40) (HI : ∀ g,h=g+1→UpC k g):UpC k h:=by
  intro kk hk K v w ao g cap hT hR hKl hF hTl hKb
  have hb:=bal (Below.refl w.heap.size w) (.cells #[.int .i64 (h:Int),.int .u64 (kk:Int)] 94)
  have e0:=heap_alloc_new w (.cells #[.int .i64 (h:Int),.int .u64 (kk:Int)] 94)
  obtain ⟨W0,hW0⟩ : ∃ W0,w.alloc (.cells #[.int .i64 (h:Int),.int .u64 (kk:Int)] 94)=W0:=⟨_,rfl⟩
  rw [hW0] at hb e0
  have c0:W0.cell? ⟨w.heap.size,0,none⟩=some (.int .i64 (h:Int)):=by rw [cell_of_row _ _ 0 _ _ (0,0) e0]; rfl
  have c1:W0.cell? ⟨w.heap.size,1,none⟩=some (.int .u64 (kk:Int)):=by rw [cell_of_row _ _ 1 _ _ (0,0) e0]; rfl
  have HS:Hid (∀ W,Below W0.heap.size W0 W→W.cell? ⟨w.heap.size,0,none⟩=some (.int .i64 (h:Int))∧W.cell? ⟨w.heap.size,1,none⟩=some (.int .u64 (kk:Int))∧RdH W ao g K.length K∧Tr W∧Below w.heap.size w W):=fun W hW =>
    ⟨(hW.cell (p:=⟨w.heap.size,0,none⟩) (World.block_lt_of_cell? W0 _ c0)).trans c0,(hW.cell (p:=⟨w.heap.size,1,none⟩) (World.block_lt_of_cell? W0 _ c1)).trans c1,hR.next (bnext hb hW),hT.next (bnext hb hW),bnext hb hW⟩
  have hKz:(K.length:Int)≤100000000:=by omega
  have HQ:Hid (K.length≤100000000∧Fn K∧Tl (clk k) K h kk v∧(∀ e∈K,e.1.1≤40∧e.1.2<2^40∧e.2.size≤32)∧(kk+1) * 2^h≤2^40∧h≤40):=⟨hKl,hF,hTl,hKb,hk,hh⟩
  have HI:=hide HI
  have hkk:kk<2^40:=by
    have:=Nat.le_mul_of_pos_right (kk+1) (Nat.two_pow_pos h)
    omega
  have hkz:(kk:Int)<1099511627776:=by omega
  have hhz:(h:Int)≤40:=by omega
  clear hT hR hKl hF hTl hKb hk hh hb e0 c0 c1 hkk
  go_enter Tryz.func141,Tryz.ntmps141
  go_upto_region 1 with (fail)
  try rw [hW0]
  clear hW0
  go_wp2
  go_loopg [8] K.length (fun gh jj wr => ∃ j:Nat,j≤K.length∧gh=K.length - j∧jj = .int .i64 (j:Int)∧Hid (∀ t,t<j→(K.getD t dH).1≠(h,kk))∧Hid (Below W0.heap.size W0 wr))
  case atStart =>
    go_light
    exact ⟨0,Nat.zero_le _,rfl,rfl,fun t ht=>absurd ht (Nat.not_lt_zero _),Below.refl _ _⟩
  case round =>
    obtain ⟨j,hj,rfl,rfl,HA,HB⟩:=hrel
    obtain ⟨c0,c1,hR,hT,hbw⟩:=HS.out wr HB.out
    by_cases hlt:j<K.length
    · have hz:(j:Int)<(K.length:Int):=by omega
      have hz0:(0:Int)≤(j:Int):=Int.natCast_nonneg _
      obtain rfl:=hR.addr (by omega)
      obtain ⟨m0,m1,m2⟩:=hR.cell j hlt
      have hmem:K.getD j dH∈K:=by rw [List.getD_eq_getElem?_getD,List.getElem?_eq_getElem hlt]; exact List.getElem_mem _
      obtain ⟨⟨⟨eh,ek⟩,ed⟩,hee⟩ : ∃ e,K.getD j dH=e:=⟨_,rfl⟩
      rw [hee] at m0 m1 m2 hmem
      simp only at m0 m1 m2
      have HBF:=hide hbw
      by_cases heq:eh=h∧ek=kk
      · obtain ⟨rfl,rfl⟩:=heq
        obtain rfl:ed=v:=HQ.out.2.2.1.some HQ.out.2.1 _ hmem rfl
        clear hR hT hbw hmem hee HA
        go_wp2
        go_quiet (fail)
        go_wp2
        go_ret2
        exact ⟨rfl,below_drewN HBF.out _⟩
      · have HA':Hid (∀ t,t<j+1→(K.getD t dH).1≠(h,kk)):=fun t ht=>by
          rcases Nat.lt_or_eq_of_le (Nat.le_of_lt_succ ht) with h1 | rfl
          · exact HA.out t h1
          · rw [hee]; intro e; exact heq ⟨congrArg Prod.fst e,congrArg Prod.snd e⟩
        by_cases x1:eh=h
        · have x2 : ¬ ek=kk:=fun e=>heq ⟨x1,e⟩
          have x3 : ¬ (ek:Int)=(kk:Int):=by omega
          subst x1
          clear hR hT hbw hmem hee HA heq
          go_wp2
          go_quiet (fail)
          go_wp2
          go_roundg (K.length - (j+1))
          case rel =>
            go_light
            exact ⟨j+1,by omega,rfl,by go_num,HA'.out,below_drewN HB.out _⟩
          case measure=>go_light; omega
        · have x3 : ¬ (eh:Int)=(h:Int):=by omega
          clear hR hT hbw hmem hee HA heq
          by_cases x2:ek=kk
          · subst x2
            go_wp2
            go_quiet (fail)
            go_wp2
            go_roundg (K.length - (j+1))
            case rel =>
              go_light
              exact ⟨j+1,by omega,rfl,by go_num,HA'.out,below_drewN HB.out _⟩
            case measure=>go_light; omega
          · have x4 : ¬ (ek:Int)=(kk:Int):=by omega
            go_wp2
            go_quiet (fail)
            go_wp2
            go_roundg (K.length - (j+1))
            case rel =>
              go_light
              exact ⟨j+1,by omega,rfl,by go_num,HA'.out,below_drewN HB.out _⟩
            case measure=>go_light; omega
    · obtain rfl:j=K.length:=by omega
      have hz : ¬ ((K.length:Int)<(K.length:Int)):=by omega
      have hnone : ∀ e∈K,e.1≠(h,kk):=fun e he=>by
        obtain ⟨t,ht,rfl⟩:=List.getElem_of_mem he
        have:=HA.out t ht
        rw [List.getD_eq_getElem?_getD,List.getElem?_eq_getElem ht] at this
        exact this
      obtain ⟨f,x,y,hf,hv,hx,hy⟩:=HQ.out.2.2.1.down hnone
      rw [← hf] at hx hy
      have hh0 : ¬ (h:Int)=0:=by omega
      have hh1:(h:Int) - 1=(f:Int):=by omega
      obtain ⟨Bl,hBl⟩ : ∃ Bl,K.filter (insB h kk)=Bl:=⟨_,rfl⟩
      rw [hBl] at hx hy
      have hBll:Bl.length≤K.length:=by rw [← hBl]; exact List.length_filter_le _ _
      have hBl0:0<Bl.length:=by obtain ⟨e,he⟩:=hx.mem; exact List.length_pos_of_mem he
      have hBb : ∀ e∈Bl,e.1.1≤40∧e.1.2<2^40∧e.2.size≤32:=fun e he=>HQ.out.2.2.2.1 e (by rw [← hBl] at he; exact (List.mem_filter.1 he).1)
      have hBf:Fn Bl:=by rw [← hBl]; exact HQ.out.2.1.filter _
      have hk40:=HQ.out.2.2.2.2.1
      have hp2:2^h=2 * 2^f:=by rw [hf,Nat.pow_succ]; omega
      have hka:(2 * kk+1) * 2^f≤2^40:=by
        refine Nat.le_trans ?_ hk40
        rw [hp2,← Nat.mul_assoc]
        exact Nat.mul_le_mul_right _ (by omega)
      have hkb:(2 * kk+1+1) * 2^f≤2^40:=by
        refine Nat.le_trans ?_ hk40
        rw [hp2,← Nat.mul_assoc]
        exact Nat.mul_le_mul_right _ (by omega)
      have hxs:=hx.size (clk_le k) (fun e he=>(hBb e he).2.2)
      have hys:=hy.size (clk_le k) (fun e he=>(hBb e he).2.2)
      have HU1:Hid (∀ W ao g cap,Tr W→RdH W ao g Bl.length Bl→Calls Tryz.prog 141 #[.int .i64 k,.agg #[.int .i64 (f:Int),.int .u64 ((2 * kk:Nat):Int)],.slice ao Bl.length cap] W fun e w'=>e = .returned (.tuple #[.string x,.bool true])∧Below W.heap.size W w'):=fun W ao g cap hT hR=>HI.out f hf (2 * kk) hka Bl x W ao g cap hT hR (by have:=HQ.out.1; omega) hBf hx hBb
      have HU2:Hid (∀ W ao g cap,Tr W→RdH W ao g Bl.length Bl→Calls Tryz.prog 141 #[.int .i64 k,.agg #[.int .i64 (f:Int),.int .u64 ((2 * kk+1:Nat):Int)],.slice ao Bl.length cap] W fun e w'=>e = .returned (.tuple #[.string y,.bool true])∧Below W.heap.size W w'):=fun W ao g cap hT hR=>HI.out f hf (2 * kk+1) hkb Bl y W ao g cap hT hR (by have:=HQ.out.1; omega) hBf hy hBb
      have HNd:Hid (∀ W,Tr W→Calls Tryz.prog 102 #[.int .i64 k,.string x,.string y] W fun e w'=>e = .returned (.string v)∧Below W.heap.size W w'):=fun W hT=>refnode_any W hT k x y (by omega) (by omega) v hv.symm
      have HX:Hid (K.filter (insB h kk)=Bl∧Bl.length≤K.length∧0<Bl.length):=⟨hBl,hBll,hBl0⟩
      have HB0:=hide HB.out
      have HF:=hide hf
      clear hnone hv hx hy hBl hBll hBl0 hBb hBf hk40 hp2 hka hkb hxs hys hR hT hbw HA HI hf
      obtain ⟨w1,hw1⟩ : ∃ w1,w1=wr:=⟨_,rfl⟩
      subst hw1
      clear hlt hj hhz hkz hKz
      go_wp2
      go_loopg [9,10] K.length (fun gh vv jj wr => ∃ j:Nat,j≤K.length∧gh=K.length - j∧jj = .int .i64 (j:Int)∧Hid (OwnH wr w1.heap.size vv ((K.take j).filter (insB h kk)))∧Hid (Below w1.heap.size w1 wr))
      case atStart =>
        go_light
        exact ⟨0,Nat.zero_le _,rfl,rfl,World.ownsRow_nil _ _ _ _,Below.refl _ _⟩
      case round =>
        obtain ⟨j,hj,rfl,rfl,HO,HB⟩:=hrel
        obtain ⟨c0,c1,hR,hT,hbw⟩:=HS.out wr (bnext HB0.out HB.out)
        by_cases hlt:j<K.length
        · have hz:(j:Int)<(K.length:Int):=by omega
          have hz0:(0:Int)≤(j:Int):=Int.natCast_nonneg _
          obtain rfl:=hR.addr (by omega)
          obtain ⟨m0,m1,m2⟩:=hR.cell j hlt
          have hfn:=filter_next (p:=insB h kk) K j hlt
          have hfl:((K.take j).filter (insB h kk)).length≤100000000:=by
            have:=List.length_filter_le (insB h kk) (K.take j)
            rw [List.length_take] at this
            have:=HQ.out.1
            omega
          have hmem:K.getD j dH∈K:=by rw [List.getD_eq_getElem?_getD,List.getElem?_eq_getElem hlt]; exact List.getElem_mem _
          have hbd:=HQ.out.2.2.2.1 _ hmem
          obtain ⟨⟨⟨eh,ek⟩,ed⟩,hee⟩ : ∃ e,K.getD j dH=e:=⟨_,rfl⟩
          rw [hee] at m0 m1 m2 hfn hbd
          simp only at m0 m1 m2 hbd
          obtain ⟨P,hP⟩ : ∃ P,(K.take j).filter (insB h kk)=P:=⟨_,rfl⟩
          rw [hP] at hfn hfl
          have HO1:=HO
          rw [hP] at HO1
          have hez:(eh:Int)≤40:=by omega
          have hh40:=HQ.out.2.2.2.2.2
          have hKz:(K.length:Int)≤100000000:=by have:=HQ.out.1; omega
          by_cases hel:eh<h
          · have hd1:decide ((eh:Int)<(h:Int))=true:=decide_eq_true (by omega)
            have hd2:decide (eh<h)=true:=decide_eq_true hel
            obtain ⟨sh,hsh⟩ : ∃ sh,h - eh=sh:=⟨_,rfl⟩
            have hs1:(h:Int) - (eh:Int)=(sh:Int):=by omega
            have hs2:IntKind.u64.wrap (sh:Int)=(sh:Int):=by rw [IntKind.wrap_u64]; omega
            have hs3:(sh:Int)<64:=by omega
            have hs4:(0:Int)≤(sh:Int):=Int.natCast_nonneg _
            obtain ⟨qq,hqq⟩ : ∃ qq,ek / 2^sh=qq:=⟨_,rfl⟩
            have hs5:(ek:Int) / (2:Int)^sh=(qq:Int):=by rw [← hqq]; simp
            have hin:insB h kk ((eh,ek),ed)=decide (qq=kk):=by
              rw [insB]
              simp only [hsh,hqq,decide_eq_true hel,Bool.true_and]
            by_cases hqk:qq=kk
            · have g1:((qq:Int) == (kk:Int))=true:=by rw [hqk]; simp
              have g2:decide ((qq:Int)=(kk:Int))=true:=decide_eq_true (by rw [hqk])
              have HFn:Hid ((K.take (j+1)).filter (insB h kk)=P++[((eh,ek),ed)]):=by rw [hin,decide_eq_true hqk] at hfn; exact hfn
              have HJ:=hide hlt
              have HPl:=hide hfl
              have HE:=hide hee
              subst hqk
              clear hR hT hbw hfn hfl hmem hbd hee hP HO hel hsh hqq hin hh40 hlt hj
              go_upto_region 12 with (fail)
              go_quiet (fail)
              go_upto_region 13 with (fail)
              have hq:Below wr.heap.size wr (wr.drewN nq):=below_drewN (Below.refl _ _) _
              obtain ⟨_,_,hR',_,_⟩:=HS.out _ (bnext (bnext HB0.out HB.out) hq)
              obtain ⟨n0,n1,n2⟩:=hR'.cell j HJ.out
              rw [HE.out] at n0 n1 n2
              simp only at n0 n1 n2
              have HO2:=hide (row_nextH HO1.out hq)
              have HB2:=hide (bnext HB.out hq)
              clear hq hR' m0 m1 m2 c0 c1 HO1
              generalize wr.drewN nq=wq at *
              go_upto_region 11 with (at_builtin; refine wpList_append_H _ rfl _ _ rfl w1.heap.size _ P rfl (World.ownsRow.alloc HO2.out _) _ [((eh,ek),ed)] rfl (rdc_H _ ((eh,ek),ed)) ?c1 ?c2 ?_)
              case c1=>have:=HPl.out; simp; omega
              case c2=>have:=HB2.out.size; simp; omega
              intro v' w3 o3 g3
              have hb3:Below w1.heap.size w1 w3:=(bal HB2.out _).trans ((Below.refl _ _).grown g3 (by have:=HB2.out.size; rw [World.size_alloc]; omega) (fun t ht=>(World.ownsRow.lt HO2.out t ht).1))
              have HO3:=hide (And.intro o3 hb3)
              clear o3 g3 hb3 HO2
              go_wp2
              go_roundg (K.length - (j+1))
              case rel =>
                go_light
                exact ⟨j+1,HJ.out,rfl,by go_num,by rw [HFn.out]; exact HO3.out.1,HO3.out.2⟩
              case measure=>go_light; have:=HJ.out; omega
            · have HFn:Hid ((K.take (j+1)).filter (insB h kk)=P):=by rw [hin,decide_eq_false hqk] at hfn; rw [hfn]; exact List.append_nil _
              have g1:((qq:Int) == (kk:Int))=false:=by simp; omega
              have g2:decide ((qq:Int)=(kk:Int))=false:=decide_eq_false (by omega)
              have g3:decide (qq=kk)=false:=decide_eq_false hqk
              have HJ:=hide hlt
              clear hR hT hbw hfn hfl hmem hbd hee hP HO hel hsh hqq hin hh40 hlt hj
              go_upto_region 12 with (fail)
              go_quiet (fail)
              go_wp2
              go_roundg (K.length - (j+1))
              case rel =>
                go_light
                exact ⟨j+1,HJ.out,rfl,by go_num,by rw [HFn.out]; exact row_nextH HO1.out (below_drewN (Below.refl _ _) _),below_drewN HB.out _⟩
              case measure=>go_light; have:=HJ.out; omega
          · have hd1:decide ((eh:Int)<(h:Int))=false:=decide_eq_false (by omega)
            have hd2:decide (eh<h)=false:=decide_eq_false hel
            have hin:insB h kk ((eh,ek),ed)=false:=by rw [insB]; simp only [decide_eq_false hel,Bool.false_and]
            have HFn:Hid ((K.take (j+1)).filter (insB h kk)=P):=by rw [hin] at hfn; rw [hfn]; exact List.append_nil _
            have HJ:=hide hlt
            clear hR hT hbw hfn hfl hmem hbd hee hP HO hel hin hh40 hlt hj
            go_upto_region 12 with (fail)
            go_quiet (fail)
            go_wp2
            go_roundg (K.length - (j+1))
            case rel =>
              go_light
              exact ⟨j+1,HJ.out,rfl,by go_num,by rw [HFn.out]; exact row_nextH HO1.out (below_drewN (Below.refl _ _) _),below_drewN HB.out _⟩
            case measure=>go_light; have:=HJ.out; omega
        · obtain rfl:j=K.length:=by omega
          have hz : ¬ ((K.length:Int)<(K.length:Int)):=by omega
          have hO:=HO.out
          rw [List.take_of_length_le (Nat.le_refl _),HX.out.1] at hO
          obtain ⟨ba,bg,bc,rfl,hRb⟩:=own_rdH hO
          have hb0 : ¬ (Bl.length:Int)=0:=by have:=HX.out.2.2; omega
          have hb0':((Bl.length:Int) == 0)=false:=by simp; have:=HX.out.2.2; intro e; rw [e] at this; exact absurd this (Nat.lt_irrefl _)
          have hkk:=HQ.out.2.2.2.2.1
          have hk2:kk+1≤2^40:=Nat.le_trans (Nat.le_mul_of_pos_right (kk+1) (Nat.two_pow_pos h)) hkk
          have hf40:(f:Int)≤40:=by have:=HQ.out.2.2.2.2.2; have:=HF.out; omega
          obtain ⟨k2,hk2'⟩ : ∃ k2,2 * kk=k2:=⟨_,rfl⟩
          obtain ⟨k3,hk3'⟩ : ∃ k3,2 * kk+1=k3:=⟨_,rfl⟩
          have e1:IntKind.u64.wrap (2 * (kk:Int))=(k2:Int):=by rw [IntKind.wrap_u64]; omega
          have e2:IntKind.u64.wrap ((k2:Int)+1)=(k3:Int):=by rw [IntKind.wrap_u64]; omega
          rw [hk2'] at HU1
          rw [hk3'] at HU2
          have HW1:=HU1.out wr ba bg bc hT hRb
          have HR2:=hide hRb
          have HB2:=hide HB.out
          clear hO hRb hkk hk2 hk2' hk3' hR hT hbw HO hlt hj
          go_wp2_with (first
            | (go_at_call 141; with_reducible refine HW1.mono ?_; rintro e w2 ⟨rfl,hb2⟩
               obtain ⟨d0,d1,_,hT2,_⟩:=HS.out w2 (bnext HB0.out (bnext HB2.out hb2))
               have HW2:=HU2.out w2 ba bg bc hT2 (HR2.out.next hb2))
            | (go_at_call 141; with_reducible refine HW2.mono ?_; rintro e w3 ⟨rfl,hb3⟩
               obtain ⟨_,_,_,hT3,_⟩:=HS.out w3 (bnext HB0.out (bnext (bnext HB2.out hb2) hb3)))
            | (go_at_call 102; with_reducible refine (HNd.out _ hT3).mono ?_; rintro e w4 ⟨rfl,hb4⟩))
          go_ret2
          exact ⟨rfl,(HS.out w4 (bnext HB0.out (bnext (bnext (bnext HB2.out hb2) hb3) hb4))).2.2.2.2⟩
theorem rup_any (k:Int) : ∀ h,h≤40→UpC k h
 | 0,_=>rup_step k 0 (Nat.zero_le _) (fun g e=>by cases e)
 | h+1,hh=>rup_step k (h+1) hh (fun g e=>by cases e; exact rup_any k h (by omega))
end Go.Proofs.YtipcenbndhnnhaaGreatDoor
