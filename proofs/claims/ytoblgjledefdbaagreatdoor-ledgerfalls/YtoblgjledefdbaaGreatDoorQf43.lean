/- Own work. -/
import Derived.Deep.SlicePairs
import Derived.Carry
import Derived.OpenShut
import Derived.SizedLaws
import Derived.Test.YtoblgjledefdbaaGreatDoorQf42
namespace Go.Proofs.YtoblgjledefdbaaGreatDoor
open Go.RowKit
structure FaV where
 at_:Int
 kind:Int
 ka:Option Addr
 kb:Nat
 ko:Nat
 kc:Nat
 keep:List Bool
 op:Bool
structure RdFa (w:World) (ao:Option Addr) (b off len:Nat) (l:Nat→FaV):Prop where
 ptr:0<len→ao=some ⟨b,off,none⟩
 cell : ∀ j,j<len→w.cell? ⟨b,off+(j * 4+0),none⟩=some (.int .i64 (l j).at_)∧w.cell? ⟨b,off+(j * 4+1),none⟩=some (.int .i64 (l j).kind)∧w.cell? ⟨b,off+(j * 4+2),none⟩=some (.slice (l j).ka (l j).keep.length (l j).kc)∧w.cell? ⟨b,off+(j * 4+3),none⟩=some (.bool (l j).op)∧St.RdL w (l j).ka (l j).kb (l j).ko (l j).keep∧(l j).keep.length≤140737488355328
theorem RdFa.four {w W:World} {ao:Option Addr} {b off len:Nat} {l:Nat→FaV} (h:RdFa w ao b off len l) (hb:Below w.heap.size w W) {j:Nat} (hj:j<len) {a:Nat} (ha:off+j * 4=a) :
  W.cell? ⟨b,a,none⟩=some (.int .i64 (l j).at_)∧W.cell? ⟨b,a+1,none⟩=some (.int .i64 (l j).kind)∧W.cell? ⟨b,a+2,none⟩=some (.slice (l j).ka (l j).keep.length (l j).kc)∧W.cell? ⟨b,a+3,none⟩=some (.bool (l j).op):=by
 obtain ⟨h0,h1,h2,h3,_⟩:=h.cell j hj
 have hlt:b<w.heap.size:=World.block_lt_of_cell? _ _ h0
 subst ha
 exact ⟨(hb.cell (p:=⟨b,_,none⟩) hlt).trans h0,(hb.cell (p:=⟨b,_,none⟩) hlt).trans h1,(hb.cell (p:=⟨b,_,none⟩) hlt).trans h2,(hb.cell (p:=⟨b,_,none⟩) hlt).trans h3⟩
theorem four_at {W:World} {q:Nat} {a b c d:Value} {T:TypeId} (h:W.heap[q]? = some (.cells #[a,b,c,d] T (0,0))):W.cell? ⟨q,0,none⟩=some a∧W.cell? ⟨q,1,none⟩=some b∧W.cell? ⟨q,2,none⟩=some c∧W.cell? ⟨q,3,none⟩=some d :=
 ⟨by rw [cell_of_row W q 0 _ _ (0,0) h]; rfl,by rw [cell_of_row W q 1 _ _ (0,0) h]; rfl,by rw [cell_of_row W q 2 _ _ (0,0) h]; rfl,by rw [cell_of_row W q 3 _ _ (0,0) h]; rfl⟩
def oFa (at_ kind:Int) (ka:Option Addr) (kl kc:Nat) (op:Bool):Obj := .cells #[.int .i64 at_,.int .i64 kind,.slice ka kl kc,.bool op] 33 (0,0)
def LfT (w W:World) (a p:Nat) (v:Value) (i:Nat) (K:List ByteArray) (D:St.DV):Prop :=
 Jn w W a p D (St.sA 8 (itL 8 K)) K v K∧K.length≤i∧(∀ s∈K,s.size≤5000)∧St.Qt 4194304 D∧St.Ext 8 (itL 8 K) D.L∧D.acts≤6+30 * i
def FqQ (w W:World) (p:Nat) (v:Value) (x:ByteArray) (i m:Nat) (u:Bool) (g:Nat) (o:Obj):Prop :=
 ∃ K D,Jdx w W p D v K g o∧Fs K x u m D∧K.length≤i+1∧(u=true→K.length≤i)
def FrQ (w W:World) (p:Nat) (v:Value) (x:ByteArray) (i m:Nat) (u:Bool) (g:Nat) (o:Obj):Prop :=
 ∃ K D,Jdx w W p D v K g o∧Fs K x u m D∧St.Qf 4194304 D∧K.length≤i+1∧(u=true→K.length≤i)
def AdQ (w W:World) (p:Nat) (v:Value) (i:Nat) (K:List ByteArray) (x:ByteArray) (g:Nat) (o:Obj) (n e:Int) (u:Bool):Prop :=
 (e=0∧n=1∧u=false ∧ ∃ a D,Jx w W a p D (St.sA 8 (itL 8 (K++[x]))) (K++[x]) v K g o∧Fs (K++[x]) x false (12+30 * i) D)∨(e≠0∧n=0∧u=true ∧ ∃ D,Jdx w W p D v K g o∧Fs K x true (12+30 * i) D)
section
variable {w W W1:World} {a p i g n m:Nat} {o:Obj} {v:Value} {x:ByteArray} {K:List ByteArray} {D:St.DV} {u:Bool}
theorem Fs.mono (h:Fs K x u n D) (hn:n≤m):Fs K x u m D:=⟨h.len,h.sz,h.sx,h.ord,h.gd,h.fr,Nat.le_trans h.acts hn,h.st⟩
theorem FrQ.mono (h:FrQ w W p v x i n u g o) (hn:n≤m):FrQ w W p v x i m u g o:=by
 obtain ⟨K,D,h1,h2,h3⟩:=h
 exact ⟨K,D,h1,h2.mono hn,h3⟩
theorem fs_of (h1:K.length≤40) (h2 : ∀ s∈K,s.size≤5000) (hx:x.size≤5000) (hq:St.Qf 4194304 D) (he:St.Ext 8 (itL 8 K) D.L) (ha:D.acts≤n):Fs K x false n D :=
 ⟨h1,h2,hx,hq.ord,.inl ((lf_smk (by omega) h2).wk he),by have:=hq.tot; omega,ha,.inl hq⟩
theorem LfT.own (h:LfT w W a p v i K D):OwnS W w.heap.size v K:=h.1.own
theorem LfT.below (h:LfT w W a p v i K D):Below w.heap.size w W:=h.1.nl.below
theorem LfT.keep (h:LfT w W a p v i K D):LfT w W a p v (i+1) K D:=by
 obtain ⟨h1,h2,h3,h4,h5,h6⟩:=h
 exact ⟨h1,by omega,h3,h4,h5,by omega⟩
theorem LfT.one (h:LfT w W a p v i K D) (ht:Tb w) (hi:i<40) (hb:Below W.heap.size W W1) (x:ByteArray) (hx:x.size≤5000) :
  ∃ D',Calls Tryz.prog 14 #[.pointer (some ⟨a,0,none⟩),.slice (some ⟨W1.heap.size,0,none⟩) 1 1] (W1.alloc (.cells #[.string x] 9)) (fun e w'=>e = .returned (.tuple #[.int .i64 1,.int .i64 0])∧Jn w w' a p D' (St.sA 8 (itL 8 (K++[x]))) (K++[x]) v K) ∧
   ∀ W' v',Jn w W' a p D' (St.sA 8 (itL 8 (K++[x]))) (K++[x]) v' (K++[x])→LfT w W' a p v' (i+1) (K++[x]) D':=by
 obtain ⟨h1,h2,h3,h4,h5,h6⟩:=h
 have hs:=lf_snoc h3 hx
 have hl:(K++[x]).length=K.length+1:=by simp
 have hf:=lf_fit (K:=K++[x]) (by omega) hs
 obtain ⟨D',a1,a2,a3,a4,a5⟩:=ap_qt [x] K D hf h4 h5 (by simp only [List.length_cons,List.length_nil]; omega)
 refine ⟨D',?_,fun W' v' hJ=>⟨hJ,by omega,hs,a2,a3,by rw [a4]; simp only [List.length_cons,List.length_nil]; omega⟩⟩
 have hsz:=hb.size
 exact h1.append ht (sA_len hf.init) (bal hb _) _ W1.heap.size 1 1 [x] (rds_one W1 x (by omega)) (by decide) (fun _ => .inr hsz) a5 1 0 a1
theorem LfT.hit (h:LfT w W a p v i K D) (ht:Tb w) (hi:i<40) (hx:x.size≤5000) (hb:Below W.heap.size W W1) (hg:W.heap.size≤g) (ho:W1.heap[g]? = some o) (fa fk:Int) (f1:1≤fa) (f2:fa≤7) (f3:1≤fk) (f4:fk≤5) (ao:Option Addr) (b off c:Nat) (ks:List Bool) (hr:St.RdL w ao b off ks) (hkl:ks.length≤140737488355328) :
  ∃ (P:World→Prop),(∀ W2,Below W1.heap.size W1 W2→(Calls Tryz.prog 12 #[.pointer (some ⟨p,0,none⟩),.agg #[.int .i64 fa,.int .i64 fk,.slice ao ks.length c]] W2 fun e w'=>e = .returned (.tuple #[])∧P w')) ∧
   (∀ W2,P W2→Below w.heap.size w W2∧W2.heap[g]? = some o) ∧
   ∀ W2,P W2→Calls Tryz.prog 14 #[.pointer (some ⟨a,0,none⟩),.slice (some ⟨W2.heap.size,0,none⟩) 1 1] (W2.alloc (.cells #[.string x] 9)) (fun e w' => ∃ n e0 u,e = .returned (.tuple #[.int .i64 n,.int .i64 e0])∧(e0 != 0)=u∧AdQ w w' p v i K x g o n e0 u):=by
 obtain ⟨h1,h2,h3,h4,h5,h6⟩:=h
 have hX:=h1.jx hb hg ho
 obtain ⟨q1,q2,q3,q4,q5⟩:=St.lay_f h4.qf fa fk ks f1 ⟨f3,f4⟩
 have hf:=lf_fit (K:=K) (by omega) h3
 obtain ⟨D',a1,a2⟩:=fs_add (n:=6+30 * i) (by omega) h3 hx q1 (by rw [q2]; exact h5) (by rw [q3]; exact h6) (by omega)
 have hl:(K++[x]).length=K.length+1:=by simp
 refine ⟨fun W2=>Jx w W2 a p (St.layD D fa fk ks) (St.sA 8 (itL 8 K)) K v K g o,fun W2 hb2 => ?_,fun W2 hJ=>⟨hJ.below,hJ.box⟩,fun W2 hJ => ?_⟩
 ·have hJ:=hX.next hb2
  exact hJ.lay2 ht fa fk (by omega) ao b off c ks (hr.next hJ.below) hkl (fun h0=>hr.lt h0)
 ·rcases a2 with ⟨b1,b2,b3,b4⟩ | ⟨e,b0,b1,b2⟩
  ·refine (hJ.append ht (sA_len hf) (bal (Below.refl _ _) _) _ W2.heap.size 1 1 [x] (rds_one W2 x (by omega)) (by decide) (fun _ => .inr (Nat.le_refl _)) a1 1 0 b1).mono fun e w' z=>⟨1,0,false,z.1,rfl,.inl ⟨rfl,rfl,rfl,a,D',z.2,fs_of (by omega) (lf_snoc h3 hx) hx b2 b3 (by omega)⟩⟩
  ·refine (hJ.append ht (sA_len hf) (bal (Below.refl _ _) _) _ W2.heap.size 1 1 [x] (rds_one W2 x (by omega)) (by decide) (fun _ => .inr (Nat.le_refl _)) a1 0 e b1).mono fun e' w' z=>⟨0,e,true,z.1,by simpa using b0,.inr ⟨b0,rfl,rfl,D',z.2.jdx,b2.mono (by omega)⟩⟩
theorem FrQ.lay (h:FrQ w W p v x i n u g o) (fa fk:Int) (f2:fa≤7) (ao:Option Addr) (b off c:Nat) (ks:List Bool) (hr:St.RdL w ao b off ks) (hkl:ks.length≤140737488355328) :
  Calls Tryz.prog 12 #[.pointer (some ⟨p,0,none⟩),.agg #[.int .i64 fa,.int .i64 fk,.slice ao ks.length c]] W fun e w'=>e = .returned (.tuple #[])∧FrQ w w' p v x i n u g o:=by
 obtain ⟨K,D,h1,h2,h3,h4⟩:=h
 obtain ⟨g1,g2⟩:=h2.lay h3 fa fk ks
 exact (h1.lay fa fk (by omega) ao b off c ks (hr.next h1.below) hkl (fun h0=>hr.lt h0)).mono fun e w' z=>⟨z.1,K,_,z.2,g1,g2,h4⟩
theorem FrQ.open (h:FrQ w W p v x i n u g o) (ht:Tb w) (hn:n≤100000) :
  Calls Tryz.prog 11 #[.pointer (some ⟨p,0,none⟩),.int .i64 8] W fun e w' => ∃ y,e = .returned y∧FqQ w w' p v x i (n+6) u g o:=by
 obtain ⟨K,D,h1,h2,h3,h4⟩:=h
 obtain ⟨D',y1,y2,y3⟩:=h2.opn h3
 have : ∃ r e0,loD D 8=(D',r,e0):=by
  rcases y1 with ⟨K2,_,o1,_⟩ | ⟨_,e,o1⟩
  ·exact ⟨_,_,o1⟩
  ·exact ⟨_,_,o1⟩
 obtain ⟨r,e0,hl⟩:=this
 exact (h1.open ht (h2.rm (by omega)) 8 hl).mono fun e w' z=>by
  obtain ⟨y,z1,z2⟩:=z
  exact ⟨y,z1,K,D',z2,y2,h4⟩
theorem FqQ.down (h:FqQ w W p v x i n u g o) : ∃ d,(Calls Tryz.prog 15 #[.pointer (some ⟨p,0,none⟩)] W fun e w'=>e = .returned (.bool d)∧W=w')∧(d=false→FrQ w W p v x i n u g o):=by
 obtain ⟨K,D,h1,h2,h4⟩:=h
 refine ⟨D.down,(h1.jd.down D.down rfl).mono fun e w' z=>⟨z.1,z.2.symm⟩,fun hd=>⟨K,D,h1,h2,?_,h4⟩⟩
 rcases h2.st with e | e
 ·exact e
 ·rw [hd] at e; exact absurd e Bool.false_ne_true
theorem FqQ.box (h:FqQ w W p v x i n u g o):W.heap[g]? = some o:=by
 obtain ⟨K,D,h1,_⟩:=h
 exact h1.box
theorem FrQ.fq (h:FrQ w W p v x i n u g o):FqQ w W p v x i n u g o:=by
 obtain ⟨K,D,h1,h2,_,h4⟩:=h
 exact ⟨K,D,h1,h2,h4⟩
theorem FrQ.next (h:FrQ w W p v x i n u g o) (hb:Below W.heap.size W W1):FrQ w W1 p v x i n u g o:=by
 obtain ⟨K,D,h1,h4⟩:=h
 exact ⟨K,D,h1.next hb,h4⟩
theorem FqQ.after (h:FqQ w W p v x i n u g o) (ao:Option Addr) (b off c:Nat) (ks:List Bool) (hr:St.RdL w ao b off ks) (hkl:ks.length≤140737488355328) :
  ∃ (fn:Nat) (P:World→Option Addr→Nat→Prop),(Calls Tryz.prog 17 #[.pointer (some ⟨p,0,none⟩),.slice ao ks.length c] W fun e w' => ∃ fa fc,e = .returned (.slice fa fn fc)∧P w' fa fc) ∧
   ∀ W2 fa fc,P W2 fa fc→Calls Tryz.prog 16 #[.int .i64 4194304,.slice fa fn fc] W2 fun e w' => ∃ p2,e = .returned (.tuple #[.pointer (some ⟨p2,0,none⟩),.int .i64 0])∧FrQ w w' p2 v x i n u g o:=by
 obtain ⟨K,D,h1,h2,h4⟩:=h
 obtain ⟨g1,g2⟩:=h2.fall ks
 refine ⟨(St.aft ks D.L 0).length,fun W2 fa _ => ∃ fb,St.RdF W2 fa fb 0 (St.aft ks D.L 0)∧Jdx w W2 p D v K g o,(h1.after ao b off c ks (hr.next h1.below) (by omega) _ rfl).mono fun e w' z => ?_,fun W2 fa fc hP => ?_⟩
 ·obtain ⟨fa,fb,fc,z1,z2,z3⟩:=z
  exact ⟨fa,fc,z1,fb,z2,z3⟩
 ·obtain ⟨fb,q1,q2⟩:=hP
  refine (q2.reopen 4194304 (by decide) fa fb fc _ q1 g1).mono fun e w' z => ?_
  obtain ⟨p2,z1,z2⟩:=z
  exact ⟨p2,z1,K,_,z2,g2.mono (Nat.zero_le _),g1.qf,h4⟩
theorem StQ.open (ht:Tb w) {K2:List ByteArray} {v2:Value} (hJ:Jd w W p D v2 K2) (h1:K2.length≤i+1) (hi:i<40) (h2 : ∀ s∈K2,s.size≤5000) (hq:St.Qt 4194304 D) (he:St.Ext 8 (itL 8 K2) D.L) (ha:D.acts≤24+30 * i) :
  Calls Tryz.prog 11 #[.pointer (some ⟨p,0,none⟩),.int .i64 8] W fun e w' => ∃ a D',e = .returned (.tuple #[.pointer (some ⟨a,0,none⟩),.int .i64 0])∧LfT w w' a p v2 (i+1) K2 D':=by
 have hF:Fs K2 ⟨#[]⟩ false (24+30 * i) D:=fs_of (by omega) h2 (by decide) hq.qf he ha
 obtain ⟨D',y1,y2,y3⟩:=hF.opn hq.qf
 rcases y1 with ⟨K3,hK,o1,o2,o3⟩ | ⟨o1,_⟩
 ·obtain rfl:K3=K2:=by
   rcases hK with e | ⟨e,_⟩
   ·exact e
   ·cases e
  exact (hJ.open ht (hF.rm (by omega)) 8 o1).mono fun e w' z=>by
   obtain ⟨a,z1,z2,_⟩:=z
   exact ⟨a,D',z1,z2,h1,h2,o2.qt (y3 hq.fk),o3,by have:=y2.acts; omega⟩
 ·exact absurd hq.fk o1
theorem LfT.has {va:Option Addr} {vn vc:Nat} (h:LfT w W a p (.slice va vn vc) i K D) (ht:Tb w) (hi:i≤40):Calls Tryz.prog 19 #[.pointer (some ⟨a,0,none⟩),.slice va vn vc] W fun e w'=>e = .returned (.bool true)∧Below w.heap.size w w':=by
 obtain ⟨h1,h2,h3,h4,h5,h6⟩:=h
 have hf:=lf_fit (K:=K) (by omega) h3
 obtain ⟨ao',b,c',q1,q2,q3,_⟩:=h1.rds h3
 injection q1 with e1 e2 e3
 subst e1 e2 e3
 exact (h1.nl.has ht (sA_len hf) (fun i x hx=>(hf.has h4.down h5).get rfl hx) va b _ vc q2 (by omega)).mono fun e w' z=>⟨z.1,bnext h1.nl.below z.2⟩
end
end Go.Proofs.YtoblgjledefdbaaGreatDoor
namespace Go.Proofs.YtoblgjledefdbaaGreatDoor
open Go.RowKit
attribute [local go_sem ↓] Go.wp_at_zero Go.wp_at_succ
attribute [local go_sem ↓] St.exec_appR
set_option maxRecDepth 100000 in
set_option maxHeartbeats 8000000 in
theorem falls_walk (w:World) (ht:Tb w) (ao:Option Addr) (b off len cap:Nat) (xs:List ByteArray) (hr:RdS w ao b off len xs) (hmx:len≤9223372036854775807) (fo:Option Addr) (fb foff fn fc:Nat) (fl:Nat→FaV) (hf:RdFa w fo fb foff fn fl) (hfm:fn≤9223372036854775807) :
  Calls Tryz.prog 3 #[.slice ao len cap,.slice fo fn fc] w fun e w'=>e = .returned (.bool true)∧Below w.heap.size w w':=by
 obtain ⟨D0,o1,o2,o3,o4⟩:=lo_new (k:=8) (R:=4194304) (by decide) (by decide)
 obtain ⟨r,hrl⟩ : ∃ r,min len 40=r:=⟨_,rfl⟩
 have hr40:r≤40∧r≤len∧(r=40∨r=len):=by omega
 have HA:=hide (lalive_any w ht)
 have HN:Hid (∀ W,Below w.heap.size w W→Calls Tryz.prog 10 #[.int .i64 4194304] W fun e w' => ∃ p,e = .returned (.pointer (some ⟨p,0,none⟩))∧Dw w w' p (St.newD 4194304)):=fun W hW=>(new_dw W 4194304 (by decide)).mono fun e w' z=>by
  obtain ⟨p,z1,z2⟩:=z
  exact ⟨p,z1,z2.base hW⟩
 have HO:Hid (∀ W p,Dw w W p (St.newD 4194304)→Calls Tryz.prog 11 #[.pointer (some ⟨p,0,none⟩),.int .i64 8] W fun e w' => ∃ a,e = .returned (.tuple #[.pointer (some ⟨a,0,none⟩),.int .i64 0])∧LfT w w' a p (.slice none 0 0) 0 [] D0):=fun W p h=>(h.open ht (rm_new 8 (by decide)) 8 o1).mono fun e w' z=>by
  obtain ⟨a,z1,z2,_⟩:=z
  exact ⟨a,z1,z2.jn,Nat.le_refl _,(fun s hs=>by cases hs),o2,o3,by omega⟩
 have HR:=hide hr
 have HF:=hide hf
 have HTb:=hide ht
 have hptr:=hr.ptr
 have hfptr:=hf.ptr
 clear o1 o2 o3 o4 ht hr hf hrl
 go_enter Tryz.func3,Tryz.ntmps3
 go_upto_region 9 with (first
  | (go_at_call 9; (with_reducible refine HA.out.mono ?_); rintro e w1 ⟨rfl,u1⟩)
  | (go_at_call 10; (with_reducible refine (HN.out _ u1).mono ?_); rintro e w2 ⟨p,rfl,t2⟩)
  | (go_at_call 11; (with_reducible refine (HO.out _ _ t2).mono ?_); rintro e w3 ⟨a,rfl,t3⟩))
 have HS3:=hide t3
 clear HA HN HO u1 t2 t3
 go_loopg [5,6,8,9] r (fun g vd vl v x wr => ∃ (i:Nat) (K:List ByteArray) (D:St.DV) (a p:Nat),i≤r∧g=r - i∧vd = .pointer (some ⟨p,0,none⟩)∧vl = .pointer (some ⟨a,0,none⟩)∧x = .int .i64 (i:Int)∧Hid (LfT w wr a p v i K D))
 case atStart =>
  go_light
  exact ⟨0,[],D0,a,p,Nat.zero_le _,rfl,rfl,rfl,rfl,HS3⟩
 case round =>
  clear HS3
  obtain ⟨i,K,D,a,p,hi,rfl,rfl,rfl,rfl,HS⟩:=hrel
  obtain ⟨va,vn,vc,rfl⟩:=own_slice3 HS.out.own
  by_cases hlt:i<r
  ·have hz:(i:Int)<(len:Int):=by omega
   have hz1:(i:Int)<40:=by omega
   obtain rfl:=hptr (by omega)
   have hB:=HS.out.below
   obtain ⟨s,hs⟩ : ∃ s,xs.getD i ByteArray.empty=s:=⟨_,rfl⟩
   have HC:Hid (∀ W,Below w.heap.size w W→W.cell? ⟨b,off+i,none⟩=some (.string s)):=fun W hW=>by
    have:=(HR.out.next hW (Nat.le_refl _)).at (k:=i) (by omega)
    rw [hs] at this
    exact this
   have ew:IntKind.i64.wrap ((i:Int)+1)=(i:Int)+1:=by rw [IntKind.wrap_i64]; omega
   have c0:=HC.out wr hB
   clear hs
   by_cases hg:s.size≤5000
   ·have hg1:(s.size:Int)≤5000:=by omega
    by_cases hh:i<fn
    ·have hh1:(i:Int)<(fn:Int):=by omega
     obtain ⟨c,hc⟩ : ∃ c,foff+i * 4=c:=⟨_,rfl⟩
     obtain ⟨k0,k1,k2,k3⟩:=HF.out.four (bnext hB (bal (Below.refl _ _) (.cells #[.int .i64 0,.int .i64 0,.slice none 0 0,.bool false] 33))) hh hc
     obtain ⟨_,_,_,_,hks,hkl⟩:=HF.out.cell i hh
     obtain rfl:=hfptr (by omega)
     generalize fl i=ff at *
     obtain ⟨fat,fkd,ka,kb,ko,kc,keep,op⟩:=ff
     simp only at k0 k1 k2 k3 hks hkl
     obtain ⟨kl,hkle⟩ : ∃ kl,keep.length=kl:=⟨_,rfl⟩
     rw [hkle] at k2
     obtain ⟨w4,hw4⟩ : ∃ W,wr.alloc (.cells #[.int .i64 fat,.int .i64 fkd,.slice ka kl kc,.bool op] 33)=W:=⟨_,rfl⟩
     have hb4:Below wr.heap.size wr w4:=by rw [← hw4]; exact bal (Below.refl _ _) _
     have ho4:w4.heap[wr.heap.size]? = some (oFa fat fkd ka kl kc op):=by rw [← hw4]; exact heap_alloc_new _ _
     obtain ⟨fa,hfa⟩ : ∃ f,1+fat % 7=f:=⟨_,rfl⟩
     obtain ⟨fk,hfk⟩ : ∃ f,1+fkd % 5=f:=⟨_,rfl⟩
     obtain ⟨z1,hz1'⟩ : ∃ z,IntKind.i64.wrap (fat.tdiv 7)=z:=⟨_,rfl⟩
     obtain ⟨z2,hz2'⟩ : ∃ z,IntKind.i64.wrap (fkd.tdiv 5)=z:=⟨_,rfl⟩
     obtain ⟨fa2,hfa2⟩ : ∃ f,1+z1 % 7=f:=⟨_,rfl⟩
     obtain ⟨fk2,hfk2⟩ : ∃ f,1+z2 % 5=f:=⟨_,rfl⟩
     have HR1:=hide (fun W=>lrest_any W fat 7 (by decide) (by decide) _ rfl)
     have HR2:=hide (fun W=>lrest_any W fkd 5 (by decide) (by decide) _ rfl)
     have HR3:=hide (fun W=>lrest_any W z1 7 (by decide) (by decide) _ rfl)
     have HR4:=hide (fun W=>lrest_any W z2 5 (by decide) (by decide) _ rfl)
     have ew1:IntKind.i64.wrap (1+fat % 7)=fa:=by rw [IntKind.wrap_i64]; omega
     have ew2:IntKind.i64.wrap (1+fkd % 5)=fk:=by rw [IntKind.wrap_i64]; omega
     have EW:=hide (show IntKind.i64.wrap (1+z1 % 7)=fa2∧IntKind.i64.wrap (1+z2 % 5)=fk2∧IntKind.i64.wrap (fat.tdiv 7)=z1∧IntKind.i64.wrap (fkd.tdiv 5)=z2 from ⟨by rw [IntKind.wrap_i64]; omega,by rw [IntKind.wrap_i64]; omega,hz1',hz2'⟩)
     have hfb:fa2≤7:=by omega
     obtain ⟨P,p1,p2,p3⟩:=HS.out.hit HTb.out (by omega) hg hb4 (Nat.le_refl _) ho4 fa fk (by omega) (by omega) (by omega) (by omega) ka kb ko kc keep hks hkl
     have hin:=HS.out.2.1
     have hil:=HS.out.2.2.1
     have HKs:=hide hks
     have HKl:=hide hkl
     have HKe:=hide hkle
     have hL:=p1 _ (St.bdz w4)
     rw [hkle] at hL
     have HL:=hide hL
     have HP2:=hide p2
     have HP3:=hide p3
     have HW4:=hide hw4
     have HI:=hide (show K.length≤i∧i<40∧s.size≤5000∧fa2≤7 from ⟨hin,by omega,hg,hfb⟩)
     have hcell:w4.cell? ⟨wr.heap.size,0,none⟩=some (.int .i64 fat)∧w4.cell? ⟨wr.heap.size,1,none⟩=some (.int .i64 fkd)∧w4.cell? ⟨wr.heap.size,2,none⟩=some (.slice ka kl kc)∧w4.cell? ⟨wr.heap.size,3,none⟩=some (.bool op):=four_at ho4
     clear hks hkl hkle hL p1 p2 p3 hw4 hb4 ho4 hfa hfk hfa2 hfk2 hz1' hz2' hin hil hfb hB hg HS hh
     go_upto_region 16 with (fail)
     rw [HW4.out]
     clear k0 k1 k2 k3 hc
     go_region_held3 (fun Z=>Z.cell? ⟨wr.heap.size,0,none⟩=some (.int .i64 fat)∧Z.cell? ⟨wr.heap.size,1,none⟩=some (.int .i64 fkd)∧Z.cell? ⟨wr.heap.size,2,none⟩=some (.slice ka kl kc)∧Z.cell? ⟨wr.heap.size,3,none⟩=some (.bool op)) (first | assumption | (exact four_at (HP2.out _ tw).2)) (first
      | (go_at_call 13; (with_reducible refine (HR1.out _).mono ?_); rintro e wa ⟨rfl,rfl⟩)
      | (go_at_call 13; (with_reducible refine (HR2.out _).mono ?_); rintro e wa ⟨rfl,rfl⟩)
      | (go_at_call 12; (with_reducible refine HL.out.mono ?_); rintro e w5 ⟨rfl,tw⟩))
     clear HR1 HR2 ew1 ew2 HL HW4 hcell
     have c5:=HC.out _ (HP2.out _ tw).1
     have HAp:=hide (HP3.out _ tw)
     go_upto_if 80 with (go_at_call 14; (with_reducible refine HAp.out.mono ?_); rintro e w6 ⟨n,e0,u,rfl,hu,t6⟩)
     clear HP2 HP3 HAp c5 tw
     have T6:=hide t6
     clear t6
     go_cut [8] from 79 to 95 (fun v8 wx => ∃ (va:Option Addr) (vn vc:Nat),v8 = .slice va vn vc∧Hid (FqQ w wx p v8 s i (12+30 * i) u wr.heap.size (oFa fat fkd ka kl kc op)))
     case first =>
      obtain ⟨hI1,hI2,hI3,_⟩:=HI.out
      rcases T6.out with ⟨e1,e2,e3,a2,D2,hJ,hFs⟩ | ⟨e1,e2,e3,D2,hJ,hFs⟩
      ·have q1:((e0:Int) == 0)=true:=by simp [e1]
       have q2:((n:Int) != 1)=false:=by simp [e2]
       have c6:=HC.out w6 hJ.below
       obtain ⟨v',w7,q3,q4⟩:=hJ.app (bal (Below.refl _ _) (.cells #[.string s] 9)) 22 ⟨w6.heap.size,0,none⟩ 1 s (St.one_new w6 _ _) (by omega)
       obtain ⟨va',vn',vc',rfl⟩:=own_slice3 q4.own
       have ha:=St.appR_of q3
       have HQ:Hid (FqQ w w7 p (.slice va' vn' vc') s i (12+30 * i) u wr.heap.size (oFa fat fkd ka kl kc op)):=⟨K++[s],D2,q4.jdx,by rw [e3]; exact hFs,by simp; omega,fun h=>by rw [e3] at h; cases h⟩
       clear T6 e1 e2 e3 hJ hFs q3 q4 hI1 hI2 hI3
       go_wp2_with fail
       go_meet
       case rel=>exact ⟨va',vn',vc',rfl,HQ⟩
      ·have q1:((e0:Int) == 0)=false:=by simpa using e1
       have q2:((n:Int) != 0)=false:=by simp [e2]
       have HQ:Hid (FqQ w w6 p (.slice va vn vc) s i (12+30 * i) u wr.heap.size (oFa fat fkd ka kl kc op)):=⟨K,D2,hJ,by rw [e3]; exact hFs,by omega,fun h=>hI1⟩
       clear T6 e1 e2 e3 hJ hFs hI1 hI2 hI3
       go_wp2_with fail
       go_meet
       case rel=>exact ⟨va,vn,vc,rfl,HQ⟩
     case rest =>
     obtain ⟨va2,vn2,vc2,rfl,HQ⟩:=hcut
     clear T6
     obtain ⟨d,hd1,hd2⟩:=HQ.out.down
     have HD:=hide hd1
     have HD2:=hide hd2
     clear hd1 hd2
     have ho:=(four_at HQ.out.box).2.2.1
     go_upto_if 101 with (go_at_call 15; (with_reducible refine HD.out.mono ?_); rintro e wa ⟨rfl,rfl⟩)
     go_cut [5,13] from 100 to 115 (fun v5 v13 wx => ∃ (p2:Nat) (e2:Int),v5 = .pointer (some ⟨p2,0,none⟩)∧v13 = .int .i64 e2∧Hid (FrQ w wx p2 (.slice va2 vn2 vc2) s i (12+30 * i) u wr.heap.size (oFa fat fkd ka kl kc op)))
     case first =>
      cases d with
      | true =>
       obtain ⟨fnn,P2,y1,y2⟩:=HQ.out.after ka kb ko kc keep HKs.out HKl.out
       rw [HKe.out] at y1
       have HY1:=hide y1
       have HY2:=hide y2
       clear y1 y2
       go_wp2_with (first
        | (go_at_call 17; (with_reducible refine HY1.out.mono ?_); rintro e w8 ⟨fa',fc',rfl,t8⟩)
        | (go_at_call 16; (with_reducible refine (HY2.out _ _ _ t8).mono ?_); rintro e w9 ⟨p2,rfl,t9⟩))
       go_meet
       case rel=>exact ⟨p2,0,rfl,rfl,t9⟩
      | false =>
       have HQ1:=hide (HD2.out rfl)
       go_wp2_with fail
       go_meet
       case rel=>exact ⟨p,e0,rfl,rfl,HQ1⟩
     case rest =>
     obtain ⟨p2,e2,rfl,rfl,HQ2⟩:=hcut
     clear HQ HD HD2 ho
     obtain ⟨ho0,ho1,ho2,ho3⟩:=four_at HQ2.out.fq.box
     have hcellx:=four_at HQ2.out.fq.box
     go_upto_if 117 with fail
     go_cut [5,13] from 116 to 150 (fun v5 v13 wx => ∃ (p3:Nat) (e3:Int),v5 = .pointer (some ⟨p3,0,none⟩)∧v13 = .int .i64 e3∧Hid (FrQ w wx p3 (.slice va2 vn2 vc2) s i (18+30 * i) u wr.heap.size (oFa fat fkd ka kl kc op)))
     case first =>
      cases op with
      | true =>
       obtain ⟨hE1,hE2,hE3,hE4⟩:=EW.out
       have HL2:=hide ((HQ2.out.next (St.bdz _)).lay fa2 fk2 HI.out.2.2.2 ka kb ko kc keep HKs.out HKl.out)
       rw [HKe.out] at HL2
       go_upto_region 31 with fail
       go_region_held3 (fun Z=>Z.cell? ⟨wr.heap.size,0,none⟩=some (.int .i64 fat)∧Z.cell? ⟨wr.heap.size,1,none⟩=some (.int .i64 fkd)∧Z.cell? ⟨wr.heap.size,2,none⟩=some (.slice ka kl kc)∧Z.cell? ⟨wr.heap.size,3,none⟩=some (.bool true)) (first | assumption | (exact four_at tw.fq.box)) (first
        | (go_at_call 13; (with_reducible refine (HR3.out _).mono ?_); rintro e wa ⟨rfl,rfl⟩)
        | (go_at_call 13; (with_reducible refine (HR4.out _).mono ?_); rintro e wa ⟨rfl,rfl⟩)
        | (go_at_call 12; (with_reducible refine HL2.out.mono ?_); rintro e w8 ⟨rfl,tw⟩))
       have HOp:=hide (tw.open HTb.out (by omega))
       clear HL2 tw hE1 hE2 hE3 hE4
       go_upto_if 136 with (first
        | (go_at_call 11; (with_reducible refine HOp.out.mono ?_); rintro e w9 ⟨y,rfl,t9⟩; obtain ⟨d2,hd3,hd4⟩:=t9.down; have HD3:=hide hd3; clear hd3)
        | (go_at_call 15; (with_reducible refine HD3.out.mono ?_); rintro e wa ⟨rfl,rfl⟩))
       cases d2 with
       | true =>
        obtain ⟨fnn,P2,y1,y2⟩:=t9.after ka kb ko kc keep HKs.out HKl.out
        rw [HKe.out] at y1
        have HY1:=hide y1
        have HY2:=hide y2
        have hoc:=(four_at t9.box).2.2.1
        clear y1 y2 hd4 t9
        go_wp2_with (first
         | (go_at_call 17; (with_reducible refine HY1.out.mono ?_); rintro e w10 ⟨fa',fc',rfl,t10⟩)
         | (go_at_call 16; (with_reducible refine (HY2.out _ _ _ t10).mono ?_); rintro e w11 ⟨p3,rfl,t11⟩))
        go_meet
        case rel=>exact ⟨p3,0,rfl,rfl,t11.mono (by omega)⟩
       | false =>
        have HQ1:=hide (hd4 rfl)
        clear hd4 t9
        go_wp2_with fail
        go_meet
        case rel=>exact ⟨p2,e2,rfl,rfl,HQ1.out.mono (by omega)⟩
      | false =>
       go_wp2_with fail
       go_meet
       case rel=>exact ⟨p2,e2,rfl,rfl,HQ2.out.mono (by omega)⟩
     case rest =>
     obtain ⟨p3,e3,rfl,rfl,HQ3⟩:=hcut
     clear HQ2 ho0 ho1 ho2 ho3 hcellx HR3 HR4 EW HKs HKl HKe
     obtain ⟨K3,D3,hJ3,hF3,hq3,hk3,hu3⟩:=HQ3.out
     have HSt:=hide (lsettled_any w _ HTb.out (18+30 * i) (by omega) s u va2 vn2 vc2 hJ3.jd hF3 hq3)
     have HOp:Hid (∀ W (K4:List ByteArray) (D4:St.DV) (v4:Value),Jd w W p3 D4 v4 K4→Fn K3 s u K4→St.Qt 4194304 D4→St.Ext 8 (itL 8 K4) D4.L→D4.acts≤24+30 * i→Calls Tryz.prog 11 #[.pointer (some ⟨p3,0,none⟩),.int .i64 8] W fun e w' => ∃ a D',e = .returned (.tuple #[.pointer (some ⟨a,0,none⟩),.int .i64 0])∧LfT w w' a p3 v4 (i+1) K4 D'):=fun W K4 D4 v4 j1 j2 j3 j4 j5=>by
      obtain ⟨_,_,j6⟩:=j2.ok hF3.len hF3.sz hF3.sx
      refine StQ.open HTb.out j1 ?_ HI.out.2.1 j6 j3 j4 j5
      rcases j2 with rfl | ⟨e,rfl⟩
      ·exact hk3
      ·have:=hu3 e
       rw [List.length_append]; simp; omega
     have c9:=HC.out _ hJ3.below
     clear hJ3 hF3 hq3 hk3 hu3 HQ3 HI
     go_upto_region 39 with (go_at_call 18; (with_reducible refine HSt.out.mono ?_); rintro e w12 hq; obtain ⟨K4,v4,D4,rfl,j1,j2,j3,j4,j5⟩:=hq; obtain ⟨va4,vn4,vc4,rfl⟩:=own_slice3 j1.own)
     have HO4:=hide (HOp.out _ _ _ _ j1 j2 j3 j4 (by omega))
     clear j1 j2 j3 j4 j5 HOp HSt c9
     go_wp2_with (go_at_call 11; (with_reducible refine HO4.out.mono ?_); rintro e w13 ⟨a5,D5,rfl,t13⟩)
     go_roundg (r - (i+1))
     case rel =>
      go_light
      exact ⟨i+1,K4,D5,a5,p3,by omega,rfl,rfl,rfl,by go_num,t13⟩
     case measure=>go_light; omega
    ·have hh1 : ¬ (i:Int)<(fn:Int):=by omega
     obtain ⟨w4,hw4⟩ : ∃ W,wr.alloc (.cells #[.int .i64 0,.int .i64 0,.slice none 0 0,.bool false] 33)=W:=⟨_,rfl⟩
     have hb4:Below wr.heap.size wr w4:=by rw [← hw4]; exact bal (Below.refl _ _) _
     obtain ⟨D',hap,hnx⟩:=HS.out.one HTb.out (by omega) hb4 s hg
     have HAp:=hide hap
     have HNx:=hide hnx
     have HAp2:Hid (∀ W1,Jn w W1 a p D' (St.sA 8 (itL 8 (K++[s]))) (K++[s]) (.slice va vn vc) K→W1.cell? ⟨b,off+i,none⟩=some (.string s) ∧ ∃ ao n cap w5,(Builtin.append_ #[22,22] 22 #[.slice va vn vc,.slice (some ⟨W1.heap.size,0,none⟩) 1 1]).run Tryz.prog (W1.alloc (.cells #[.string s] 9)) = .ok (.slice ao n cap) w5∧LfT w w5 a p (.slice ao n cap) (i+1) (K++[s]) D'):=fun W1 hJ=>by
      refine ⟨HC.out W1 hJ.nl.below,?_⟩
      obtain ⟨v',w5,q1,q2⟩:=hJ.app (bal (Below.refl _ _) (.cells #[.string s] 9)) 22 ⟨W1.heap.size,0,none⟩ 1 s (St.one_new W1 _ _) (by have:=HS.out.2.1; omega)
      obtain ⟨ao,n,cap,rfl⟩:=own_slice3 q2.own
      exact ⟨ao,n,cap,w5,q1,HNx.out w5 _ q2⟩
     have c4:=HC.out w4 (bnext hB hb4)
     have HW4:=hide hw4
     clear hap hnx hB hg HC HNx HS hw4 hb4
     go_upto_region 17 with (fail)
     rw [HW4.out]
     go_wp2_with (go_at_call 14; (with_reducible refine HAp.out.mono ?_); rintro e w5 ⟨rfl,t5⟩; obtain ⟨c5,ea,en,ec,w6,h6,t6⟩:=HAp2.out w5 t5; have ha:=St.appR_of h6; have T6:=hide t6; clear HAp HAp2 c0 c4 t5 t6 h6)
     go_roundg (r - (i+1))
     case rel =>
      go_light
      exact ⟨i+1,K++[s],D',a,p,by omega,rfl,rfl,rfl,by go_num,T6⟩
     case measure=>go_light; omega
   ·have hg1 : ¬ (s.size:Int)≤5000:=by omega
    have HNx:Hid (LfT w wr a p (.slice va vn vc) (i+1) K D):=HS.out.keep
    clear hB hg HC HS
    go_wp2
    go_roundg (r - (i+1))
    case rel =>
     go_light
     exact ⟨i+1,K,D,a,p,by omega,rfl,rfl,rfl,by go_num,HNx⟩
    case measure=>go_light; omega
  ·obtain rfl:i=r:=by omega
   have hex : ¬ ((i:Int)<(len:Int))∨(((i:Int)<(len:Int)) ∧ ¬ (i:Int)<40):=by omega
   have HH:=hide (HS.out.has HTb.out (by omega))
   clear HS hlt hi hptr HR hfptr HF
   rcases hex with hz | ⟨hz,hz1⟩
   all_goals
    go_wp2_with (go_at_call 19; (with_reducible refine HH.out.mono ?_); rintro e w11 ⟨rfl,t11⟩)
    go_ret
    exact ⟨rfl,t11⟩
end Go.Proofs.YtoblgjledefdbaaGreatDoor
namespace Go.Proofs.YtoblgjledefdbaaGreatDoor
open Go.RowKit Go.ChangeShapes Go.WideShapes
instance:Inhabited FaV:=⟨⟨0,0,none,0,0,0,[],false⟩⟩
theorem rowCellsFa:Tryz.prog.cellsOf 33=4:=by kernel_rfl
theorem rowCellsIa:Tryz.prog.cellsOf 3=1:=by kernel_rfl
theorem rowCellsBa:Tryz.prog.cellsOf 4=1:=by kernel_rfl
theorem rowCellsLa:Tryz.prog.cellsOf 31=1:=by kernel_rfl
theorem rowBytesBa:Tryz.prog.bytesOf 4=1:=by kernel_rfl
theorem weightsAll_memF {H:Type} {P:Program} {t:TypeId} {d:DataW H} {y:Nat} : ∀ {ds:List (DataW H)},d∈ds→y∈DataW.weights P t d→y∈DataW.weightsAll P t ds
 | [],h,_=>by cases h
 | x::r,h,hy=>by
  simp only [DataW.weightsAll,List.mem_append]
  rcases List.mem_cons.1 h with rfl | h
  ·exact .inl hy
  ·exact .inr (weightsAll_memF h hy)
theorem openLa {H:Type} {enc:TypeId×Value→H} {W:World} {fuel:Nat} {v:Value} {x:DataW H×List MemPlace} (hf:DataW.trod enc Tryz.prog W 0 (fun _=>true) true fuel 31 [v]=some x) (hw : ∀ y∈DataW.weights Tryz.prog 31 x.1,y≤reachBytes) :
  ∃ (ao:Option Addr) (b off cap:Nat) (ks:List Bool),v = .slice ao ks.length cap∧St.RdL W ao b off ks∧ks.length≤140737488351232:=by
 rcases Go.Deep.open_slice Tryz.underlying31 hf with ⟨hcs,hx⟩ | ⟨a,len,cap,m,n,D,Pl,hcs,_,hl,hm,hmm,hx,hcell⟩
 ·simp at hcs
  subst hcs
  exact ⟨none,0,0,0,[],rfl,St.rdl_nil _ _ _ _,Nat.zero_le _⟩
 ·simp at hcs
  subst hcs
  simp only [if_true] at hmm
  have hlw:len≤140737488351232:=by
   rw [hx] at hw
   have h5:=hw _ (by simp only [DataW.weights,Tryz.underlying31]; exact List.mem_cons_self)
   simp only [List.length_map,List.length_range,rowBytesBa] at h5
   unfold reachBytes at h5
   omega
  have each : ∀ i,i<len → ∃ b:Bool,W.cell? (a.add i)=some (.bool b):=fun i hi=>by
   obtain ⟨cs',h1,h2⟩:=hcell i (by omega)
   rw [rowCellsBa] at h1
   obtain ⟨_,hlen,hc⟩:=World.cells?_some h1
   obtain ⟨b,rfl,_⟩:=DataW.trod_bool Tryz.underlying4 h2
   have q:=hc 0 (by decide)
   simp only [Go.Deep.add_add,Nat.mul_one,Nat.add_zero] at q
   exact ⟨b,by simpa using q⟩
  obtain ⟨l,hL⟩:=Go.Deep.choose_lt each
  by_cases h0:len=0
  ·subst h0
   exact ⟨some a,0,0,cap,[],rfl,St.rdl_nil _ _ _ _,Nat.zero_le _⟩
  ·obtain ⟨b,off,spot⟩:=a
   have hspot:spot=none:=by simpa [Addr.add] using World.cell?_spot (hL 0 (by omega))
   subst hspot
   have hlen:((List.range len).map l).length=len:=by simp
   refine ⟨some ⟨b,off,none⟩,b,off,cap,(List.range len).map l,by rw [hlen],⟨fun _=>rfl,fun j hj => ?_⟩,by rw [hlen]; exact hlw⟩
   rw [hlen] at hj
   have:=hL j hj
   rw [Addr.add_mid] at this
   rw [this]
   simp [List.getD_eq_getElem?_getD,hj]
set_option maxRecDepth 100000 in
theorem openFa {H:Type} {enc:TypeId×Value→H} {W:World} {fuel:Nat} {cs:List Value} {x:DataW H×List MemPlace} (hl:cs.length=4) (hf:DataW.trod enc Tryz.prog W 0 (fun _=>true) true fuel 33 cs=some x) (hw : ∀ y∈DataW.weights Tryz.prog 33 x.1,y≤reachBytes) :
  ∃ o:FaV,cs=[.int .i64 o.at_,.int .i64 o.kind,.slice o.ka o.keep.length o.kc,.bool o.op]∧St.RdL W o.ka o.kb o.ko o.keep∧o.keep.length≤140737488355328:=by
 obtain ⟨xs,k,hk,hxy,_,hxl,hg⟩:=DataW.trod_struct Tryz.underlying33 hf
 match xs,hxl,cs,hl with
 | [y0,y1,y2,y3],_,[v0,v1,v2,v3],_ =>
  have g0:=hg 0 _ rfl
  have g1:=hg 1 _ rfl
  have g2:=hg 2 _ rfl
  have g3:=hg 3 _ rfl
  simp [rowCellsIa,rowCellsLa,rowCellsBa] at g0 g1 g2 g3
  obtain ⟨z0,e0,_,_⟩:=DataW.trod_int Tryz.underlying3 g0
  obtain ⟨z1,e1,_,_⟩:=DataW.trod_int Tryz.underlying3 g1
  obtain ⟨z3,e3,_⟩:=DataW.trod_bool Tryz.underlying4 g3
  simp only [List.cons.injEq,and_true] at e0 e1 e3
  subst e0 e1 e3
  rw [hxy] at hw
  obtain ⟨ao,b,off,cap,ks,rfl,h1,h2⟩:=openLa g2 (fun y hy=>hw y (by
   simp only [DataW.weights,Tryz.underlying33,List.map_cons,List.map_nil,DataW.weightsEach,List.mem_append]
   exact Or.inr (Or.inr (Or.inl hy))))
  exact ⟨⟨z0,z1,ao,b,off,cap,ks,z3⟩,rfl,h1,by simp only; omega⟩
theorem sliceRdFa {H:Type} {enc:TypeId×Value→H} {W:World} {fuel:Nat} {ao:Option Addr} {len cap:Nat} {x:DataW H×List MemPlace} {ts:List TypeId} {ds:List (DataW H)} {j:Nat} (hf:DataW.trod enc Tryz.prog W 0 (fun _=>true) true fuel 23 [.slice ao len cap]=some x)
  (hz:(DataW.weightsEach Tryz.prog ts ds).all (· ≤ reachBytes)=true) (hj:ts[j]? = some 23) (hd:ds[j]? = some x.1) :
  ∃ (b off:Nat) (l:Nat→FaV),RdFa W ao b off len l∧len≤maxLen∧len≤cap∧(ao=none→cap=0):=by
 rcases Go.Deep.open_slice Tryz.underlying23 hf with ⟨hcs,hx⟩ | ⟨a,len',cap',m,n,D,Pl,hcs,_,hl,hm,hmm,hx,hcell⟩
 ·simp at hcs
  obtain ⟨rfl,rfl,rfl⟩:=hcs
  exact ⟨0,0,fun _=>default,⟨fun h=>absurd h (Nat.lt_irrefl 0),fun j hj=>absurd hj (Nat.not_lt_zero j)⟩,Nat.zero_le _,Nat.le_refl _,fun _=>rfl⟩
 ·simp at hcs
  obtain ⟨rfl,rfl,rfl⟩:=hcs
  simp only [if_true] at hmm
  have hz2:=List.all_eq_true.1 hz
  have hall : ∀ y∈DataW.weights Tryz.prog 23 x.1,y≤reachBytes:=fun y hy=>of_decide_eq_true (hz2 y (DataW.weights_mem_each hj hd y hy))
  rw [hx] at hall
  have each : ∀ i,i<len → ∃ o:FaV,W.cell? (a.add (i * 4+0))=some (.int .i64 o.at_)∧W.cell? (a.add (i * 4+1))=some (.int .i64 o.kind)∧W.cell? (a.add (i * 4+2))=some (.slice o.ka o.keep.length o.kc)∧W.cell? (a.add (i * 4+3))=some (.bool o.op)∧St.RdL W o.ka o.kb o.ko o.keep∧o.keep.length≤140737488355328:=fun i hi=>by
   obtain ⟨cs',h1,h2⟩:=hcell i (by omega)
   rw [rowCellsFa] at h1
   obtain ⟨_,hlen,hc⟩:=World.cells?_some h1
   obtain ⟨o,rfl,ho⟩:=openFa hlen h2 (fun y hy=>hall y (by
    simp only [DataW.weights,Tryz.underlying23,List.mem_cons,List.mem_append]
    exact Or.inr (Or.inl (weightsAll_memF (List.mem_map.2 ⟨i,List.mem_range.2 hi,rfl⟩) hy))))
   have q:=fun t (ht:t<4)=>hc t ht
   simp only [Go.Deep.add_add] at q
   exact ⟨o,by simpa using q 0 (by decide),by simpa using q 1 (by decide),by simpa using q 2 (by decide),by simpa using q 3 (by decide),ho⟩
  obtain ⟨l,hL⟩:=Go.Deep.choose_lt each
  by_cases h0:len=0
  ·subst h0
   exact ⟨0,0,fun _=>default,⟨fun h=>absurd h (Nat.lt_irrefl 0),fun j hj=>absurd hj (Nat.not_lt_zero j)⟩,Nat.zero_le _,hl,fun h=>by cases h⟩
  ·obtain ⟨b,off,spot⟩:=a
   have hspot:spot=none:=by simpa [Addr.add] using World.cell?_spot (hL 0 (by omega)).1
   subst hspot
   refine ⟨b,off,l,⟨fun _=>rfl,fun j hj => ?_⟩,Nat.le_trans hl hm,hl,fun h=>by cases h⟩
   have:=hL j hj
   simp only [Addr.add_mid] at this
   exact this
end Go.Proofs.YtoblgjledefdbaaGreatDoor
