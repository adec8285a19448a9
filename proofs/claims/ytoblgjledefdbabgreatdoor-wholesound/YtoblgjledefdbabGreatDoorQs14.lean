/- Own work. -/
import Derived.Test.YtoblgjledefdbabGreatDoorQs13
set_option maxRecDepth 100000
namespace Go.Proofs.YtoblgjledefdbabGreatDoor
open Go.RowKit
attribute [local go_sem ↓] Go.wp_at_zero Go.wp_at_succ
open Go.Proofs.Tryz
namespace St
open Rc
section
variable {q p:Nat} {T:Nat->Prop} {D:DV} {S:SV}
theorem SkM.cell{w W:World}{D':DV}{S':SV}(h:SkM w W q p T D' S'){b i:Nat}{v:Value}(hc:w.cell? ⟨b,i,none⟩=some v)(hT:¬T b):W.cell? ⟨b,i,none⟩=some v:=by
 obtain⟨T',_,_,h3⟩:=h;exact(Lq (a:=⟨b,i,none⟩) (h3.block b (Ll _ _ hc) hT)).trans hc
theorem Y1{w w1 w2:World}{T1:Nat->Prop}{D2:DV}{S2:SV}(a2:∀x,T1 x->T x∨w.heap.size<=x)(a3:Upo T w w1)(h:SkM w1 w2 q p T1 D2 S2):SkM w w2 q p T D2 S2:=by
 obtain⟨T2,b1,b2,b3⟩:=h;refine⟨T2,b1,fun x hx=> ?_,a3.trans b3 (fun x hx ht=> ?_)⟩
 ·rcases b2 x hx with e|e
  ·exact a2 x e
  ·exact .inr (Lt a3.size e)
 ·rcases a2 x ht with e|e
  ·exact e
  ·omega
theorem SkM.limp{w W:World}{D':DV}(h:SkM w W q p T D' S):(W.cell? ⟨q,4,none⟩=some (.bool S.lame)∧W.frozen? ⟨q,4,none⟩=false)∧SkM w (W.setCell ⟨q,4,none⟩ (.bool true)) q p T D' { S with lame:=true } := by
 obtain⟨T',⟨S0,v,d1,d2,d3,d4,d5⟩,h2,h3⟩:=h;refine⟨⟨(Yu d2.blk).2.2.2.2,frozen_of_row W q 4 _ _ d2.blk⟩,T',⟨S0,v,?_,⟨Ln W q 4 _ _ _ d2.blk,QK d2.own (fun g hg=>Below.heap_setCell _ _ _ _ (d4 g hg).1),d2.k1,d2.k2,d2.few,d2.low⟩,d3,d4,d5⟩,h2,h3.set q 4 _ ?_⟩
 ·exact d1.same (fun x hx=>Below.heap_setCell _ _ _ _ (fun e=>d3 (show S0 q from(show x=q from e) ▸ hx)))
 ·exact h2 q ((d5 q).2 (.inr (.inl rfl)))
theorem bdz(w:World):Below w.heap.size w w.drew:=bdw (Lc _ _)
theorem Qgh(w:World)(h:Sk w q p T D S)(hr:Rmy D)(s t:BA)(hs:s.size<=maxLen)(ht:t.size<=140737488355328)(n:Nat)(hn:n<=9223372036854775807)(HL:Hid (∀W,Sk W q p T D S->Calls prog 117 #[Zv q,.string s] W fun e w'=>e= .returned (.int .i64 n)∧w'=W))(D':DV)(r:Int)(hD:wrD D s.data.toList (n:Int) t.data.toList=(D',r)) :
  Calls prog 133 #[Zv q,.string s,.string t] w fun e w'=>e= .returned (.int .i64 r)∧SkM w w' q p T D' S:=by
 have HW:Hid (∀W,Sk W q p T D S->Below w.heap.size w W->Calls prog 199 #[Zv p,.string s,.int .i64 n,.string t] W fun e w'=>e= .returned (.int .i64 r)∧SkM w w' q p T D' S):=fun W hW hb=>by
  have:=hW.write hr s t hs n (by omega) (by omega) ht
  rw[hD] at this;exact this.mono fun e w' z=>⟨z.1,z.2.first hb⟩
 have HC:Hid (∀W,Sk W q p T D S->W.cell? ⟨q,0,none⟩=some (Zv p)):=fun W hW=>by
  obtain⟨_,_,⟨c0,_⟩,_⟩:=hW.cells;exact c0
 have HC3:Hid (∀W,SkM w W q p T D' S->W.cell? ⟨q,0,none⟩=some (Zv p)):=fun W hW=>by
  obtain⟨T',hW,_⟩:=hW;obtain⟨_,_,⟨c0,_⟩,_⟩:=hW.cells;exact c0
 have tw:=h.next (bdz w);have ub:=bdz w;have c0:=HC.out _ h;clear h hr hs ht hn hD
 go_enter func133,ntmps133
 go_upto_region 1 with (fail)
 go_region_held3 (fun Z=>Z.cell? ⟨q,0,none⟩=some (Zv p)) (first|assumption|(with_reducible exact HC3.out _ t3)|(with_reducible exact HC.out _ tw)) (first
  | (go_at_call 117;(with_reducible refine(HL.out _ tw).mono ?_);rintro e w2 ⟨rfl,rfl⟩)
  | (go_at_call 199;(with_reducible refine(HW.out _ tw ub).mono ?_);rintro e w3 ⟨rfl,t3⟩))
 all_goals
  go_wp2
  go_ret
  exact⟨rfl,t3⟩
theorem QjF(w:World)(ao:OA)(b off len cap:Nat)(ss:LB)(hr:RdS w ao b off len ss)(hc:len<=cap)(hl:len<=1000)(hf:(Rc.Qj ss).length<=140737488355328) :
  Calls prog 135 #[.slice ao len cap,.string ⟨#[]⟩] w fun e w'=>e= .returned (.string (tx (Rc.Qj ss)))∧Below w.heap.size w w':=by
 have hj:Lib.join (ss.map (·.data.toList)) []=Rc.Qj ss:=by
  cases ss with
  | nil=>rfl
  | cons d r=>rw[WB,Lib.join_cons];simp[Lib.joinTail,Rc.Qj];rfl
 by_cases h0:0<len
 ·obtain rfl:=hr.ptr h0;have hlen:=hr.hl;subst hlen;have:=Tryz.strings_Join b off cap ss ⟨#[]⟩ w (fun j x hx=>hr.rng j _ (by rw[No,hx];rfl)) (hr.lt h0) (by omega) hc (by rw[show(ByteArray.mk #[]).data.toList=[] from rfl,hj];exact hf)
  rw[show(ByteArray.mk #[]).data.toList=[] from rfl,hj] at this
  exact this
 ·obtain rfl:len=0:=by omega
  have:ss=[]:=List.length_eq_zero_iff.1 hr.hl;subst this;exact(Tryz.strings_Join_none ao cap ⟨#[]⟩ w).mono fun e w' h=>⟨h.1,by rw[h.2];exact Lc _ _⟩
theorem Qiw(w:World)(h:Sk w q p T D S)(hr:Rmy D)(bs bp:Nat)(hcs:w.cell? ⟨bs,0,none⟩=some (Zv q))(t:BA)(hcp:w.cell? ⟨bp,0,none⟩=some (.string t))(ht:t.size<=140737488355328)(D':DV)(r:Int)(hD:wrD D nmI (lst S.ends:Int) t.data.toList=(D',r)) :
  Calls prog 132 #[Zv bs,Zv bp] w fun e w'=>e= .returned (.int .i64 r)∧SkM w w' q p T D' S:=by
 have HW:=Qc (Qgh w h hr ⟨#[105,116,101,109,115]⟩ t (by decide) ht (lst S.ends) (by have:=h.small.2.2.2.2.2;omega) (fun W hW=>Y7 W hW) D' r hD)
 clear h hr hD
 go_enter func132,ntmps132
 go_wp2_with (go_at_call 133;refine HW.out.mono ?_;rintro e w1 ⟨rfl,t1⟩)
 go_ret
 exact⟨rfl,t1⟩
theorem Qix(w:World)(h:Sk w q p T D S)(hr:Rmy D)(bs br:Nat)(hcs:w.cell? ⟨bs,0,none⟩=some (Zv q))(ao:OA)(b off len cap:Nat)(ss:LB)(hcr:w.cell? ⟨br,0,none⟩=some (.slice ao len cap))(hrd:RdS w ao b off len ss)(hc:len<=cap)(hl:len<=1000)(hf:(Rc.Qj ss).length<=1000000)(ns:¬T bs)(nr:¬T br)(D':DV)(r:Int)(hD:wrD D nmN ((nn S.ends.length*40:Nat):Int) (Rc.Qj ss)=(D',r)) :
  Calls prog 134 #[Zv bs,Zv br] w fun e w'=>e= .returned (.int .i64 r)∧SkM w w' q p T D' S:=by
 have HJ:Hid (∀W,Below w.heap.size w W->Calls prog 135 #[.slice ao len cap,.string ⟨#[]⟩] W fun e w'=>e= .returned (.string (tx (Rc.Qj ss)))∧Below w.heap.size w w'):=fun W hW=>(QjF W ao b off len cap ss (hrd.next hW (Lb _)) hc hl (by omega)).mono fun e w' z=>⟨z.1,Qa hW z.2⟩
 have HW:Hid (∀W,Below w.heap.size w W->Calls prog 133 #[Zv q,.string ⟨#[110,111,100,101,115]⟩,.string (tx (Rc.Qj ss))] W fun e w'=>e= .returned (.int .i64 r)∧SkM w w' q p T D' S):=fun W hW=>
  (Qgh W (h.next hW) hr ⟨#[110,111,100,101,115]⟩ (tx (Rc.Qj ss)) (by decide) (by rw[Ji];omega) (nn S.ends.length*40) (by have:=Qcw S.ends.length;have:=h.small.2.2.1;omega) (fun W hW=>OI W hW) D' r hD).mono fun e w' z=>⟨z.1,z.2.first hW⟩
 have HC:Hid (∀W,Below w.heap.size w W->W.cell? ⟨bs,0,none⟩=some (Zv q)∧W.cell? ⟨br,0,none⟩=some (.slice ao len cap)):=fun W hW=>⟨(hW.cell (p:=⟨bs,0,none⟩) (Ll _ _ hcs)).trans hcs,(hW.cell (p:=⟨br,0,none⟩) (Ll _ _ hcr)).trans hcr⟩
 have HC3:Hid (∀W,SkM w W q p T D' S->W.cell? ⟨bs,0,none⟩=some (Zv q)∧W.cell? ⟨br,0,none⟩=some (.slice ao len cap)):=fun W hW=>⟨hW.cell hcs ns,hW.cell hcr nr⟩
 have u:=bdz w;clear h hr hD hrd hc hl hf
 go_enter func134,ntmps134
 go_upto_region 1 with (fail)
 go_region_held3 (fun Z=>Z.cell? ⟨bs,0,none⟩=some (Zv q)∧Z.cell? ⟨br,0,none⟩=some (.slice ao len cap)) (first|assumption|(with_reducible exact HC3.out _ t3)|(with_reducible exact HC.out _ u)) (first
  | (go_at_call 135;(with_reducible refine(HJ.out _ u).mono ?_);rintro e w2 ⟨rfl,u⟩)
  | (go_at_call 133;(with_reducible refine(HW.out _ u).mono ?_);rintro e w3 ⟨rfl,t3⟩))
 all_goals
  go_wp2
  go_ret
  exact⟨rfl,t3⟩
theorem QiA(w:World)(h:Sk w q p T D S)(hr:Rmy D)(bs bm:Nat)(hcs:w.cell? ⟨bs,0,none⟩=some (Zv q))(m:MV)(h1:m.size<18446744073709551616)(h2:m.items<18446744073709551616)(h3:m.nodes<18446744073709551616)(hcm:w.cell? ⟨bm,0,none⟩=some (.int .i64 m.k)∧w.cell? ⟨bm,1,none⟩=some (.int .u64 m.size)∧w.cell? ⟨bm,2,none⟩=some (.int .u64 m.items)∧w.cell? ⟨bm,3,none⟩=some (.int .u64 m.nodes)∧w.cell? ⟨bm,4,none⟩=some (.int .u32 m.chain.toNat))(ns:¬T bs)(nm:¬T bm)(D':DV)(r:Int)(hD:wrD D nmM ((S.ends.length*64:Nat):Int) (mrk m)=(D',r)) :
  Calls prog 138 #[Zv bs,Zv bm] w fun e w'=>e= .returned (.int .i64 r)∧SkM w w' q p T D' S:=by
 obtain⟨m0,m1,m2,m3,m4⟩:=hcm;have HJ:Hid (∀W,Below w.heap.size w W->Calls prog 139 #[.agg #[.int .i64 m.k,.int .u64 m.size,.int .u64 m.items,.int .u64 m.nodes,.int .u32 m.chain.toNat]] W fun e w'=>e= .returned (.string (tx (mrk m)))∧Below w.heap.size w w'):=fun W hW=>(QjS W m h1 h2 h3 (tx (mrk m)) rfl).mono fun e w' z=>⟨z.1,Qa hW z.2⟩
 have hml:(mrk m).length<=64:=by
  unfold mrk
  split
  ·rw[JY,JL];omega
  ·simp
 have HW:Hid (∀W,Below w.heap.size w W->Calls prog 133 #[Zv q,.string ⟨#[109,97,114,107,115]⟩,.string (tx (mrk m))] W fun e w'=>e= .returned (.int .i64 r)∧SkM w w' q p T D' S):=fun W hW=>
  (Qgh W (h.next hW) hr ⟨#[109,97,114,107,115]⟩ (tx (mrk m)) (by decide) (by rw[Ji];omega) (S.ends.length*64) (by have:=h.small.2.2.1;omega) (fun W hW=>OH W hW) D' r hD).mono fun e w' z=>⟨z.1,z.2.first hW⟩
 have up:∀ {b i:Nat} {v:Value} {W:World},w.cell? ⟨b,i,none⟩=some v->Below w.heap.size w W->W.cell? ⟨b,i,none⟩=some v:=fun {b i v W} hc hW=>(hW.cell (p:=⟨b,i,none⟩) (Ll _ _ hc)).trans hc
 have HC:Hid (∀W,Below w.heap.size w W->W.cell? ⟨bs,0,none⟩=some (Zv q)∧W.cell? ⟨bm,0,none⟩=some (.int .i64 m.k)∧W.cell? ⟨bm,1,none⟩=some (.int .u64 m.size)∧W.cell? ⟨bm,2,none⟩=some (.int .u64 m.items)∧W.cell? ⟨bm,3,none⟩=some (.int .u64 m.nodes)∧W.cell? ⟨bm,4,none⟩=some (.int .u32 m.chain.toNat)):=fun W hW=>⟨up hcs hW,up m0 hW,up m1 hW,up m2 hW,up m3 hW,up m4 hW⟩
 have HC3:Hid (∀W,SkM w W q p T D' S->W.cell? ⟨bs,0,none⟩=some (Zv q)∧W.cell? ⟨bm,0,none⟩=some (.int .i64 m.k)∧W.cell? ⟨bm,1,none⟩=some (.int .u64 m.size)∧W.cell? ⟨bm,2,none⟩=some (.int .u64 m.items)∧W.cell? ⟨bm,3,none⟩=some (.int .u64 m.nodes)∧W.cell? ⟨bm,4,none⟩=some (.int .u32 m.chain.toNat)):=fun W hW=>⟨hW.cell hcs ns,hW.cell m0 nm,hW.cell m1 nm,hW.cell m2 nm,hW.cell m3 nm,hW.cell m4 nm⟩
 have u:=bdz w;clear h hr hD up hml h1 h2 h3;obtain⟨mk,ma,mb,mc,md⟩:=m;simp only at *;generalize tx (mrk ⟨mk,ma,mb,mc,md⟩)=tm at *;generalize md.toNat=mdn at *
 go_enter func138,ntmps138
 go_upto_region 1 with (fail)
 go_region_held3 (fun Z=>Z.cell? ⟨bs,0,none⟩=some (Zv q)∧Z.cell? ⟨bm,0,none⟩=some (.int .i64 mk)∧Z.cell? ⟨bm,1,none⟩=some (.int .u64 ma)∧Z.cell? ⟨bm,2,none⟩=some (.int .u64 mb)∧Z.cell? ⟨bm,3,none⟩=some (.int .u64 mc)∧Z.cell? ⟨bm,4,none⟩=some (.int .u32 mdn)) (first|assumption|(with_reducible exact HC3.out _ t3)|(with_reducible exact HC.out _ u)) (first
  | (go_at_call 139;(with_reducible refine(HJ.out _ u).mono ?_);rintro e w2 ⟨rfl,u⟩)
  | (go_at_call 133;(with_reducible refine(HW.out _ u).mono ?_);rintro e w3 ⟨rfl,t3⟩))
 all_goals
  go_wp2
  go_ret
  exact⟨rfl,t3⟩
theorem Qiy(w:World)(h:Sk w q p T D S)(hr:Rmy D)(bs:Nat)(hcs:w.cell? ⟨bs,0,none⟩=some (Zv q))(D':DV)(r:Int)(hD:YE D nmI=(D',r)) :
  Calls prog 136 #[Zv bs] w fun e w'=>e= .returned (.int .i64 r)∧SkM w w' q p T D' S:=by
 have HW:Hid (Calls prog 119 #[Zv p,.string ⟨#[105,116,101,109,115]⟩] w fun e w'=>e= .returned (.int .i64 r)∧SkM w w' q p T D' S):=by
  have:=h.sync hr ⟨#[105,116,101,109,115]⟩ (by decide)
  rw[show(ByteArray.mk #[105,116,101,109,115]).data.toList=nmI from rfl,hD] at this
  exact this
 obtain⟨_,_,⟨c0,_⟩,_⟩:=h.cells;clear h hr hD
 go_enter func136,ntmps136
 go_wp2_with (go_at_call 119;refine HW.out.mono ?_;rintro e w1 ⟨rfl,t1⟩)
 go_ret
 exact⟨rfl,t1⟩
theorem Qiz(w:World)(h:Sk w q p T D S)(hr:Rmy D)(bs:Nat)(hcs:w.cell? ⟨bs,0,none⟩=some (Zv q))(D':DV)(r:Int)(hD:YE D nmN=(D',r)) :
  Calls prog 137 #[Zv bs] w fun e w'=>e= .returned (.int .i64 r)∧SkM w w' q p T D' S:=by
 have HW:Hid (Calls prog 119 #[Zv p,.string ⟨#[110,111,100,101,115]⟩] w fun e w'=>e= .returned (.int .i64 r)∧SkM w w' q p T D' S):=by
  have:=h.sync hr ⟨#[110,111,100,101,115]⟩ (by decide)
  rw[show(ByteArray.mk #[110,111,100,101,115]).data.toList=nmN from rfl,hD] at this
  exact this
 obtain⟨_,_,⟨c0,_⟩,_⟩:=h.cells;clear h hr hD
 go_enter func137,ntmps137
 go_wp2_with (go_at_call 119;refine HW.out.mono ?_;rintro e w1 ⟨rfl,t1⟩)
 go_ret
 exact⟨rfl,t1⟩
theorem QiB(w:World)(h:Sk w q p T D S)(hr:Rmy D)(bs:Nat)(hcs:w.cell? ⟨bs,0,none⟩=some (Zv q))(D':DV)(r:Int)(hD:YE D nmM=(D',r)) :
  Calls prog 140 #[Zv bs] w fun e w'=>e= .returned (.int .i64 r)∧SkM w w' q p T D' S:=by
 have HW:Hid (Calls prog 119 #[Zv p,.string ⟨#[109,97,114,107,115]⟩] w fun e w'=>e= .returned (.int .i64 r)∧SkM w w' q p T D' S):=by
  have:=h.sync hr ⟨#[109,97,114,107,115]⟩ (by decide)
  rw[show(ByteArray.mk #[109,97,114,107,115]).data.toList=nmM from rfl,hD] at this
  exact this
 obtain⟨_,_,⟨c0,_⟩,_⟩:=h.cells;clear h hr hD
 go_enter func140,ntmps140
 go_wp2_with (go_at_call 119;refine HW.out.mono ?_;rintro e w1 ⟨rfl,t1⟩)
 go_ret
 exact⟨rfl,t1⟩
end
end St
namespace St
abbrev dv:Value := .slice none 0 0
def resO(r:Result Value):Option (Value×World) :=
 match r with
 | .ok v w=>some (v,w)
 | .halt _ _=>none
theorem QmY(r:Result Value)(hs:(resO r).isSome=true)(d:Value×World):r= .ok ((resO r).getD d).1 ((resO r).getD d).2:=by
 cases r with
 | ok v w=>rfl
 | halt x w=>cases hs
noncomputable def appR (t ty:Nat) (v u:Value) (w:World):Option (Value×World):=resO ((Builtin.append_ #[t,t] ty #[v,u]).run prog w)
theorem QcT{t ty:Nat}{v u v':Value}{w w':World}(h:(Builtin.append_ #[t,t] ty #[v,u]).run prog w= .ok v' w'):appR t ty v u w=some (v',w'):=LZ resO h
theorem QkF(t ty:Nat)(v u:Value)(w:World)(hs:(appR t ty v u w).isSome=true):(Builtin.append_ #[t,t] ty #[v,u]).run prog w= .ok ((appR t ty v u w).getD (dv,w)).1 ((appR t ty v u w).getD (dv,w)).2:=QmY _ hs (dv,w)
theorem JO(ρ:Operand->Value)(d:Option Tmp)(s x:Operand)(t ty:Nat)(ps:String)(af:Array Edge)(gd:Option (Nat×Bool))(w:World)(hs:(appR t ty (ρ s) (ρ x) w).isSome=true) :
  (execOp ρ { dst:=d,op:=Op.call { callee:=Callee.builtin Builtin.append,args:=#[s,x],argTypes:=#[t,t] },type:=ty,pos:=ps,after:=af,guard:=gd }).run prog w= .ok (.value ((appR t ty (ρ s) (ρ x) w).getD (dv,w)).1) ((appR t ty (ρ s) (ρ x) w).getD (dv,w)).2:=by
 have hrun:=QkF t ty (ρ s) (ρ x) w hs;generalize (appR t ty (ρ s) (ρ x) w).getD (dv,w)=r at *;simp[execOp,resolve,invoke,builtin,hrun,Result.andThen]
end St
namespace St
open Rc
attribute [local go_sem ↓] JO
theorem Qdt(w:World)(a:Value)(T:TypeId):∀j u,[a][j]? = some u->(w.alloc (.cells #[a] T)).cell? ((⟨w.heap.size,0,none⟩:Addr).add j)=some u:=fun j u hu=>by
 rw[Addr.add_mid,Nz,Lp]
 simpa using hu
def QnB(w w':World)(v v':Value):Prop:=(∃g n cap,v= .slice (Zp g) n cap∧v'= .slice (Zp g) (n+1) cap∧w.grownBy w' (some g))∨(w.grownBy w' none ∧ ∀g,v'.ownBlock=some g->w.heap.size<=g)
theorem Qig(w:World)(ty B:Nat)(v:Value)(L:List Nat)(hown:OwnE w B v L)(ad:Addr)(mc:Nat)(z:Nat)(hr:∀j u,[Value.int .i64 z][j]? = some u->w.cell? (ad.add j)=some u)
  (hlen:L.length+1<=1048576) (hB:B<=w.heap.size) :
  ∃v' w',(Builtin.append_ #[119,119] ty #[v,.slice (some ad) 1 mc]).run prog w= .ok v' w'∧OwnE w' B v' (L++[z])∧QnB w w' v v':=by
 obtain⟨i0,hi,hz0,hz1,hz2⟩:=info_parts Tryz.infoE;have hap:∀ {w':World} {v':Value} {n:Nat},n=L.length+1->w'.ownsRow B 3 1 v' n (cE L++[.int .i64 z])->OwnE w' B v' (L++[z]):=fun hn h=>by
  rw[OwnE,cE,Nd,Lh,LJ,Ip,Lp,<-hn];exact h
 have h1c:∀u∈([.int .i64 z]:List Value),u.oneCell'=true:=by intro u hu;simp at hu;subst hu;rfl
 have hown0:=hown
 rcases hown.2 with ⟨rfl,h0⟩|⟨g,cp,cur,rfl,hgb,hh,hc⟩
 ·have hL:L=[]:=List.length_eq_zero_iff.1 h0;subst hL;obtain⟨v',w',hrun,r1,r2,_⟩:=run_append_own (P:=prog) w w.heap.size 119 ty 3 i0 (.int .i64 0) 1 8 underlying119 hi hz0 hz1 hz2 rfl (by decide) _ 0 [] (Nj _ _ _ _) ad 1 mc [.int .i64 z] rfl hr h1c (by decide) (by decide) (Lb _)
  exact⟨v',w',hrun,hap rfl (by simpa [cE] using World.ownsRow.mono r1 hB),.inr ⟨r2,fun k hk=>(LX r1 k hk).1⟩⟩
 ·by_cases hfit:L.length+1<=cp
  ·obtain⟨w',hrun,r1,r2⟩:=run_append_fits (P:=prog) w B 119 ty 3 i0 1 underlying119 hi hz1 g L.length cp (cE L) hown0 ad 1 mc [.int .i64 z] rfl hr h1c hfit;exact⟨_,w',hrun,hap rfl r1,.inl ⟨g,L.length,cp,rfl,rfl,r2⟩⟩
  ·obtain⟨v',w',hrun,r1,r2⟩:=run_append_arg_grows (P:=prog) w 119 ty 3 i0 (.int .i64 0) 1 8 underlying119 hi hz0 hz1 hz2 rfl (by decide) ⟨g,0,none⟩ L.length cp (cE L) hown0.1 (IH hown0 rfl) ad 1 mc [.int .i64 z] rfl hr (by omega) (by unfold maxLen;omega) (by omega)
   exact⟨v',w',hrun,hap rfl (World.ownsRow.mono r1 hB),.inr ⟨r2,fun k hk=>(LX r1 k hk).1⟩⟩
section
variable {q p:Nat} {T:Nat->Prop} {D:DV} {S:SV}
theorem UR(w:World)(h:Sk w q p T D S)(m:MV)(h1:m.items<=268435456)(h2:S.ends.length<65536) :
  Calls prog 141 #[Zv q,.agg (mC m)] w fun e w'=>e= .returned (.tuple #[])∧SkM w w' q p T D { S with ends:=S.ends++[m.items],chain:=m.chain } := by
 obtain⟨S0,v,d1,d2,d3,d4,d5⟩:=h;obtain⟨ao,cap,rfl,_⟩:=JT d2.own;obtain⟨mk,ma,mb,mc,md⟩:=m;simp only at h1;have hw:IntKind.i64.wrap (mb:Int)=(mb:Int):=by rw[LE];omega
 obtain⟨w1,hw1⟩:∃W,w.alloc (.cells #[.int .i64 mk,.int .u64 ma,.int .u64 mb,.int .u64 mc,.int .u32 md.toNat] 209)=W:=⟨_,rfl⟩;have u1:Below w.heap.size w w1:=by rw[<-hw1];exact bal (Lc _ _) _
 have k1:w1.heap[w.heap.size]? = some (.cells #[.int .i64 mk,.int .u64 ma,.int .u64 mb,.int .u64 mc,.int .u32 md.toNat] 209 (0,0)):=by rw[<-hw1];exact U7 _ _
 rw[show mC ⟨mk,ma,mb,mc,md⟩=#[.int .i64 mk,.int .u64 ma,.int .u64 mb,.int .u64 mc,.int .u32 md.toNat] from rfl]
 have s1:Sto w1 q p (.slice ao S.ends.length cap) S:=d2.same (u1.block q d2.lt) (fun g hg=>u1.block g (JU d2.own hg))
 obtain⟨w2,hw2⟩:∃W,(w1.alloc (.cells #[.int .i64 mb] 3)).drew=W:=⟨_,rfl⟩;have u2:Below w1.heap.size w1 w2:=by rw[<-hw2];exact Qi (bal (Lc _ _) _) 1
 have s2:Sto w2 q p (.slice ao S.ends.length cap) S:=s1.same (u2.block q s1.lt) (fun g hg=>u2.block g (JU s1.own hg))
 obtain⟨v',w3,hap,o3,g3⟩:=Qig w2 119 0 _ S.ends s2.own ⟨w1.heap.size,0,none⟩ 1 mb (by rw[<-hw2];exact Qdt _ _ _) (by omega) (Lm _)
 have t3:Upo (fun x=>(Value.slice ao S.ends.length cap).ownBlock=some x) w2 w3:=by
  rcases g3 with ⟨g,n,c,e1,e2,g3⟩|⟨g3,_⟩
  ·rw[e1];exact Upo.grown g3 (fun b hb=>by cases hb;rfl)
  ·exact Upo.grown g3 (fun b hb=>by cases hb)
 have hv3:∀g,v'.ownBlock=some g->(Value.slice ao S.ends.length cap).ownBlock=some g∨w2.heap.size<=g:=fun g hg=>by
  rcases g3 with ⟨g',n,c,e1,e2,g3⟩|⟨_,g3⟩
  ·rw[e1];rw[e2] at hg;exact .inl hg
  ·exact .inr (g3 g hg)
 obtain⟨ao3,cap3,rfl,_⟩:=JT o3;have hq2:q<w2.heap.size:=s2.lt;have kq:w3.heap[q]? = some (.cells #[Zv p,.int .i64 S.k,.slice ao S.ends.length cap,.int .u32 S.chain.toNat,.bool S.lame] 121 (0,0)):=(t3.block q hq2 (fun e=>(d4 q e).1 rfl)).trans s2.blk
 have km:w3.heap[w.heap.size]? = some (.cells #[.int .i64 mk,.int .u64 ma,.int .u64 mb,.int .u64 mc,.int .u32 md.toNat] 209 (0,0)):=by
  have hz:=(Array.getElem?_eq_some_iff.1 k1).1
  refine(t3.block _ (by have:=u2.size;omega) (fun e=> ?_)).trans ((u2.block _ hz).trans k1)
  have:=JU d2.own e;omega
 obtain⟨c0,c1,c2,c3,c4⟩:=Yu s2.blk;obtain⟨x0,x1,x2,x3,x4⟩:=Yu ((u2.block _ (Array.getElem?_eq_some_iff.1 k1).1).trans k1)
 obtain⟨_,_,c2a,_,_⟩:=Yu s1.blk;obtain⟨_,_,x2a,_,_⟩:=Yu k1;have HW1:=Qc hw1;have HW2:=Qc hw2;have ha:=QcT hap;have f2:w3.frozen? ⟨q,2,none⟩=false:=frozen_of_row w3 q 2 _ _ kq;have f3:w3.frozen? ⟨q,3,none⟩=false:=frozen_of_row w3 q 3 _ _ kq;obtain⟨y0,y1,y2,y3,y4⟩:=Yu kq;obtain⟨z0,z1,z2,z3,z4⟩:=Yu km;obtain⟨bm,hbm⟩:∃b,w.heap.size=b:=⟨_,rfl⟩;have HBm:=Qc hbm;rw[hbm] at x2a x0 x1 x2 x3 x4 z0 z1 z2 z3 z4;rw[<-hw2] at c2 x2 ha;have hl3:(S.ends++[mb]).length=S.ends.length+1:=by simp
 rw[hl3] at ha o3 hv3;have hne:¬bm=q:=by have:=d2.lt;omega
 have hne2:¬q=bm:=fun e=>hne e.symm
 have HZ:Hid (SkM w ((w3.setCell ⟨q,2,none⟩ (.slice ao3 (S.ends.length+1) cap3)).setCell ⟨q,3,none⟩ (.int .u32 md.toNat)) q p T D { S with ends:=S.ends++[mb],chain:=md }):=by
  have ub:Below w.heap.size w w2:=Qa u1 u2;have kq2:((w3.setCell ⟨q,2,none⟩ (.slice ao3 (S.ends.length+1) cap3)).setCell ⟨q,3,none⟩ (.int .u32 md.toNat)).heap[q]? = some (.cells #[Zv p,.int .i64 S.k,.slice ao3 (S.ends.length+1) cap3,.int .u32 md.toNat,.bool S.lame] 121 (0,0)) :=
   Ln _ q 3 _ _ _ (Ln w3 q 2 _ _ _ kq)
  have up:Upo (fun x=>x=q∨(Value.slice ao S.ends.length cap).ownBlock=some x) w ((w3.setCell ⟨q,2,none⟩ (.slice ao3 (S.ends.length+1) cap3)).setCell ⟨q,3,none⟩ (.int .u32 md.toNat)) :=
   (((Upo.of ub).trans t3 (fun x _ e=> .inr e)).set q 2 _ (.inl (.inl rfl))).set q 3 _ (.inl (.inl rfl))
  have oth:∀x,x≠q->((w3.setCell ⟨q,2,none⟩ (.slice ao3 (S.ends.length+1) cap3)).setCell ⟨q,3,none⟩ (.int .u32 md.toNat)).heap[x]? = w3.heap[x]? := fun x hx=>(Below.heap_setCell _ _ _ _ hx).trans (Below.heap_setCell _ _ _ _ hx)
  have hvq:∀g,(Value.slice ao3 (S.ends.length+1) cap3).ownBlock=some g->g≠q ∧ ¬S0 g:=fun g hg=>by
   rcases hv3 g hg with e|e
   ·exact d4 g e
   ·exact⟨by omega,fun hs=>by have:=d1.lt hs;have:=ub.size;omega⟩
  refine⟨fun x=>S0 x∨x=q∨(Value.slice ao3 (S.ends.length+1) cap3).ownBlock=some x,⟨S0,.slice ao3 (S.ends.length+1) cap3,?_,⟨kq2,QK (v := .slice ao3 (S.ends.length+1) cap3) o3 (fun g hg=>oth g (hvq g hg).1),d2.k1,d2.k2,by simp;omega,fun e he=> ?_⟩,d3,hvq,fun _=>Iff.rfl⟩,fun x hx=> ?_,up.mono (fun x _ e=>(d5 x).2 (.inr e))⟩
  ·exact d1.keep up (fun x hx e=>by
    rcases e with rfl|e
    ·exact d3 hx
    ·exact(d4 x e).2 hx)
  ·rcases List.mem_append.1 he with e1|e1
   ·exact d2.low e e1
   ·rw[List.mem_singleton.1 e1];exact h1
  ·rcases hx with e|e|e
   ·exact .inl ((d5 x).2 (.inl e))
   ·exact .inl ((d5 x).2 (.inr (.inl e)))
   ·rcases hv3 x e with e|e
    ·exact .inl ((d5 x).2 (.inr (.inr e)))
    ·exact .inr (by have:=ub.size;omega)
 clear hw1 hw2 hbm u1 u2 s1 s2 hap o3 g3 t3 hv3 kq km k1 d1 d2 d3 d4 d5 h1 h2 hq2
 go_enter func141,ntmps141
 go_upto_region 1 with (fail)
 rw[HW1.out,HBm.out]
 go_region
 all_goals
  go_wp2;exact bodyPost_end (results_none rfl _ prog _) rfl ⟨rfl,HZ.out⟩
end
end St
namespace St
structure Rm(n:Nat)(D:DV):Prop where
 acts:D.acts+n<=4611686018427387904
 cnt:D.L.length+n<=1099511627776
 free:D.free+268435456*n<=4611686018427387904
theorem Rm.rmy{n:Nat}{D:DV}(h:Rm (n+1) D):Rmy D:=⟨by have:=h.acts;omega,by have:=h.cnt;omega,by have:=h.free;omega⟩
theorem Rm.mono{n m:Nat}{D:DV}(h:Rm n D)(hm:m<=n):Rm m D:=⟨by have:=h.acts;omega,by have:=h.cnt;omega,by have:=h.free;omega⟩
theorem QoZ{n:Nat}{D:DV}(s:List UInt8)(f:FV)(hz:(Qh D.L s).now.length<=268435456)(ha:D.acts+n<=4611686018427387904)(hc:D.L.length+(n+1)<=1099511627776)(hf:D.free+268435456*(n+1)<=4611686018427387904):Rm n (Y6 D s f):=by
 refine⟨ha,?_,?_⟩
 ·have:=OG (L:=D.L) s f
  show(Yi D.L s f).length+n<=_
  omega
 ·show D.free+(Qh D.L s).now.length-f.now.length+268435456*n<=_
  omega
theorem Qkz{n:Nat}{D:DV}(s:List UInt8)(f:FV)(hz:(Qh D.L s).now.length<=268435456)(h:Rm (n+1) D):Rm n (actD D s f).1:=by
 have ha:=h.acts;have hc:=h.cnt;have hf:=h.free;exact QoZ (D := { D with acts:=D.acts+1 }) s f hz (by show D.acts+1+n<=_;omega) (by show D.L.length+_<=_;omega) hf
theorem QkA{n:Nat}{D:DV}(s:List UInt8)(off:Int)(t:List UInt8)(hz:(Qh D.L s).now.length<=268435456)(h:Rm (n+1) D):Rm n (wrD D s off t).1:=by
 unfold wrD
 split
 ·exact h.mono (by omega)
 ·split
  ·exact h.mono (by omega)
  ·split
   ·exact h.mono (by omega)
   ·exact Qkz s _ hz h
theorem Qf1{n:Nat}{D:DV}(s:List UInt8)(hz:(Qh D.L s).now.length<=268435456)(h:Rm (n+1) D):Rm n (YE D s).1:=by
 unfold YE
 split
 ·exact h.mono (by omega)
 ·exact Qkz s _ hz h
end St
namespace St
def Bk(W:World)(b:Nat)(x:Value)(T:TypeId):Prop:=W.heap[b]? = some (.cells #[x] T (0,0))
section
variable {W W':World} {b:Nat} {x y:Value} {T:TypeId}
theorem Bk.lt(h:Bk W b x T):b<W.heap.size:=(Array.getElem?_eq_some_iff.1 h).1
theorem Bk.both(h:Bk W b x T):W.cell? ⟨b,0,none⟩=some x∧W.frozen? ⟨b,0,none⟩=false:=⟨by rw[cell_of_row W b 0 _ _ (0,0) h];rfl,frozen_of_row W b 0 _ _ h⟩
theorem Bk.next(h:Bk W b x T)(u:Below W.heap.size W W'):Bk W' b x T:=(u.block b h.lt).trans h
theorem Bk.al(h:Bk W b x T)(o:Obj):Bk (W.alloc o) b x T:=h.next (bal (Lc _ _) o)
theorem Bk.four(h:Bk W b x T):W.cell? ⟨b,0,none⟩=some x∧W.frozen? ⟨b,0,none⟩=false∧(∀o,(W.alloc o).cell? ⟨b,0,none⟩=some x) ∧ ∀o,(W.alloc o).frozen? ⟨b,0,none⟩=false:=⟨h.both.1,h.both.2,fun o=>(h.al o).both.1,fun o=>(h.al o).both.2⟩
theorem Bk.ne(h:Bk W b x T):¬b=W.heap.size ∧ ¬W.heap.size=b:=by have:=h.lt;omega
theorem Bk.put(h:Bk W b x T)(y:Value):Bk (W.setCell ⟨b,0,none⟩ y) b y T:=Ln W b 0 _ _ y h
theorem Bk.other(h:Bk W b x T){c i:Nat}(hc:b≠c)(y:Value):Bk (W.setCell ⟨c,i,none⟩ y) b x T:=(Below.heap_setCell _ _ _ _ hc).trans h
theorem UW(W:World)(x:Value)(T:TypeId):Bk (W.alloc (.cells #[x] T)) W.heap.size x T:=U7 _ _
theorem QiH(u:Below (W.alloc (.cells #[x] T)).heap.size (W.alloc (.cells #[x] T)) W'):Bk W' W.heap.size x T:=(UW W x T).next u
theorem QiI{U:TypeId}(u:Below ((W.alloc (.cells #[x] T)).alloc (.cells #[y] U)).heap.size ((W.alloc (.cells #[x] T)).alloc (.cells #[y] U)) W'):Bk W' W.heap.size x T∧Bk W' (W.heap.size+1) y U:=by
 refine⟨((UW W x T).al _).next u,?_⟩
 have h:=UW (W.alloc (.cells #[x] T)) y U;rw[JJ] at h;exact h.next u
theorem Qk8{V:World}(u:Below V.drew.heap.size V.drew W'):Below V.heap.size V W':=⟨u.os,u.tape,u.output,u.size,u.block⟩
theorem Qlu(u:Below (W.alloc (.cells #[x] T)).drew.heap.size (W.alloc (.cells #[x] T)).drew W'):Bk W' W.heap.size x T:=QiH (Qk8 u)
theorem Qlv{U:TypeId}(u:Below ((W.alloc (.cells #[x] T)).alloc (.cells #[y] U)).drew.heap.size ((W.alloc (.cells #[x] T)).alloc (.cells #[y] U)).drew W'):Bk W' W.heap.size x T∧Bk W' (W.heap.size+1) y U:=QiI (Qk8 u)
theorem apart{w:World}{B:Nat}{v:Value}{ss:LB}(o:Qg w B v ss)(hb:b<B):∀g,v.ownBlock=some g->g≠b:=fun g hg e=>by
 have:=(LX o g hg).1;omega
end
end St
end Go.Proofs.YtoblgjledefdbabGreatDoor
