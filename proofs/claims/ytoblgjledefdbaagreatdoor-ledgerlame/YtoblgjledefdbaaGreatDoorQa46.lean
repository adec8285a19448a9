/- Own work. -/
import Derived.Test.YtoblgjledefdbaaGreatDoorQa44
import Derived.Test.YtoblgjledefdbaaGreatDoorQa45
namespace Go.Proofs.YtoblgjledefdbaaGreatDoor
open Go.RowKit
attribute [local go_sem ↓] Go.wp_at_zero Go.wp_at_succ
theorem take_snoc {α:Type} (d:α) (l:List α) (i:Nat) (h:i<l.length):l.take i++[l.getD i d]=l.take (i+1):=by
 rw [List.take_succ_eq_append_getElem h,List.getD_eq_getElem?_getD,List.getElem?_eq_getElem h]; rfl
theorem map_getD {α β:Type} (f:α→β) (d:α) (e:β) (l:List α) (i:Nat) (h:i<l.length):(l.map f).getD i e=f (l.getD i d):=by
 simp [List.getD_eq_getElem?_getD,List.getElem?_eq_getElem h]
set_option maxRecDepth 100000 in
set_option maxHeartbeats 2000000 in
theorem rpeaks_any (w:World) (ht:Tr w) (k:Int) (ao:Option Addr) (b off len cap:Nat) (L:List ByteArray) (hr:RdS w ao b off len L) (hsz : ∀ s∈L,s.size≤140737488351232) (hmx:len≤1099511627776) (hc:len≤cap) (P:List ByteArray) (hP:Hid (pks (clk k) L 41=P)) :
  Calls Tryz.prog 60 #[.int .i64 k,.slice ao len cap] w fun e w' => ∃ v,e = .returned v∧OwnS w' w.heap.size v P∧Below w.heap.size w w':=by
 obtain ⟨Hs,hHs⟩ : ∃ Hs,Hid (gen id len 41=Hs):=⟨_,rfl⟩
 obtain ⟨M,hM⟩ : ∃ M,Hid (gen (mtP len) len 41=M):=⟨_,rfl⟩
 have HMt:=fun W=>mountains_any W len hmx M hM
 have hLl:=hr.hl
 have eM:M=Hs.map (mtP len):=by
  have h1:=gen_map (mtP len) id len 41
  rw [hHs.out] at h1
  rw [h1]; exact hM.out.symm
 have eP:P=Hs.map (fun s=>nd (clk k) L s (len / 2^s - 1)):=by
  have h1:=gen_map (fun s=>nd (clk k) L s (len / 2^s - 1)) id len 41
  have h2:=gen_pks (clk k) L 41
  rw [hHs.out] at h1
  rw [hLl] at h2
  rw [h1]; exact hP.out.symm.trans h2.symm
 have lH:Hs.length≤41:=by rw [← hHs.out]; exact gen_len _ _ _
 have lM:M.length=Hs.length:=by rw [eM]; simp
 have lP:P.length=Hs.length:=by rw [eP]; simp
 have HT:Hid (Tr w∧RdS w ao b off len L∧(∀ s∈L,s.size≤140737488351232)∧len≤1099511627776∧len≤cap):=⟨ht,hr,hsz,hmx,hc⟩
 have HV:Hid (∀ i,i<Hs.length → ∃ s t z i',s≤40∧2^s=z∧M.getD i (0,0)=(t,z)∧t+z≤len∧t=i' * 2^s∧P.getD i ByteArray.empty=nd (clk k) L s i'):=fun i hi=>by
  obtain ⟨s,hs⟩ : ∃ s,Hs.getD i 0=s:=⟨_,rfl⟩
  have hmem:s∈gen id len 41:=by
   rw [hHs.out,← hs,List.getD_eq_getElem?_getD,List.getElem?_eq_getElem hi]; exact List.getElem_mem _
  obtain ⟨hs41,hbit⟩:=gen_mem 41 s hmem
  obtain ⟨hat,hge⟩:=mount_at hbit
  refine ⟨s,(len / 2^s - 1) * 2^s,2^s,len / 2^s - 1,by omega,rfl,?_,?_,rfl,?_⟩
  ·rw [eM,map_getD _ 0 _ _ _ hi,hs,mtP]
  ·have h5:=Nat.div_mul_le_self len (2^s)
   rw [Nat.sub_mul,Nat.one_mul]
   have:1 * 2^s≤len / 2^s * 2^s:=Nat.mul_le_mul_right _ hge
   omega
  ·rw [eP,map_getD _ 0 _ _ _ hi,hs]
 have HSz:Hid (∀ s∈P,s.size≤9223372036854775807):=fun s hs=>by rw [← hP.out] at hs; rw [pks_size (clk_le k) _ _ s hs]; have:=clk_le k; omega
 have hb:=Below.refl w.heap.size w
 have HL:Hid (Hs.length≤41∧M.length=Hs.length∧P.length=Hs.length):=⟨lH,lM,lP⟩
 clear ht hr hsz hmx hc hP hHs hM hLl eM eP lH lM lP
 go_enter Tryz.func60,Tryz.ntmps60
 go_wp2_with (go_at_call 111; with_reducible refine (HMt _).mono ?_; rintro e w1 ⟨vM,rfl,hoM,hb1⟩)
 clear HMt
 obtain ⟨q,hq⟩ : ∃ q,Hs.length=q:=⟨_,rfl⟩
 obtain ⟨aoM,cM,hvM,hoM2⟩ : ∃ aoM cM,vM = .slice aoM q cM∧(0<q → ∃ g,aoM=some ⟨g,0,none⟩∧OwnP w1 w.heap.size (.slice (some ⟨g,0,none⟩) q cM) M):=by
  have hl:=HL.out.2.1
  rcases hoM.2 with ⟨hv,h0⟩ | ⟨g,cp,cur,hv,_⟩
  ·refine ⟨none,0,?_,fun h => ?_⟩
   ·rw [hv,show q=0 by omega]
   ·omega
  ·refine ⟨some ⟨g,0,none⟩,cp,?_,fun _=>⟨g,rfl,?_⟩⟩
   ·rw [hv,hl,hq]
   ·have:=hoM; rw [hv,hl,hq] at this; exact this
 subst hvM
 rw [hq] at HL HV
 have HO:Hid (0<q → ∃ g,aoM=some ⟨g,0,none⟩∧OwnP w1 w.heap.size (.slice (some ⟨g,0,none⟩) q cM) M):=hoM2
 have HB1:Hid (Below w.heap.size w w1):=hb1
 have hq41:(q:Int)≤41:=by have:=HL.out.1; omega
 clear hoM hoM2 hb1 hq
 go_loopg [6,7] q (fun gg v i0 wr => ∃ i:Nat,i≤q∧gg=q - i∧i0 = .int .i64 (i:Int)∧OwnS wr w1.heap.size v (P.take i)∧Below w1.heap.size w1 wr)
 case atStart =>
  go_light
  exact ⟨0,Nat.zero_le _,rfl,rfl,owns_nil _ _,Below.refl _ _⟩
 case round =>
  obtain ⟨i,hi,rfl,rfl,ho,hb2⟩:=hrel
  have hi0:(0:Int)≤(i:Int):=Int.natCast_nonneg _
  by_cases hlt:i<q
  ·have hlt':(i:Int)<(q:Int):=by omega
   obtain ⟨g,rfl,hoM⟩:=HO.out (by omega)
   obtain ⟨s,t,z,i',hs40,hz,hM,htz,hti,hPi⟩:=HV.out i hlt
   obtain ⟨t1,t2,t3,t4,t5⟩:=HT.out
   have hz0:0<z:=by rw [← hz]; exact Nat.two_pow_pos s
   obtain rfl:=t2.ptr (by omega)
   obtain ⟨x,hx⟩ : ∃ x,P.getD i ByteArray.empty=x:=⟨_,rfl⟩
   rw [hx] at hPi
   have HTr:Hid (∀ W,Below w1.heap.size w1 W→Calls Tryz.prog 112 #[.int .i64 k,.slice (some ⟨b,off+t,none⟩) z (cap - t)] W fun e w'=>e = .returned (.string x)∧Below W.heap.size W w'):=fun W hb=>by
    refine rtree_any W (t1.next (bnext HB1.out hb)) k _ b (off+t) (cap - t) s z hs40 hz ((L.drop t).take z) ((t2.next (bnext HB1.out hb) (Nat.le_refl _)).cut t z (by omega)) (fun y hy=>t3 y (List.mem_of_mem_drop (List.mem_of_mem_take hy))) x ?_
    show _=_
    rw [hti,← hz,nd_cut]; exact hPi.symm
   have hlM:=HL.out
   have HK0:Hid (∀ W,Below w1.heap.size w1 W→W.cell? ⟨g,i * 2,none⟩=some (.int .i64 (t:Int))∧W.cell? ⟨g,i * 2+1,none⟩=some (.int .i64 (z:Int))):=fun W h=>by
    have:=ownP_cell (ownP_next hoM h) (j:=i) (by omega)
    rw [hM] at this
    exact this
   have HY:Hid (OwnS wr w1.heap.size u6 (P.take i)∧Below w1.heap.size w1 wr∧P.take i++[x]=P.take (i+1)∧i+1≤q∧q≤41∧(P.take i).length=i):=⟨ho,hb2,by rw [← hx]; exact take_snoc _ _ _ (by omega),hlt,by omega,by rw [List.length_take]; omega⟩
   obtain ⟨y,hy⟩ : ∃ y,t+z=y:=⟨_,rfl⟩
   have e1:IntKind.i64.wrap ((t:Int)+(z:Int))=(y:Int):=by rw [IntKind.wrap_i64]; omega
   have s0:(0:Int)≤(t:Int):=Int.natCast_nonneg _
   have s1:(t:Int)≤(y:Int):=by omega
   have s2:(y:Int)≤(cap:Int):=by omega
   have s3 : ¬ (cap=t):=by omega
   have s4:y - t=z:=by omega
   have hd:Below w1.heap.size w1 wr.drew:=(hb2).drew
   obtain ⟨i0,hi0',hz0',hz1,hz2⟩:=info_parts Tryz.infoS
   have HO2:Hid (∀ W,Below wr.drew.heap.size wr.drew W→(W.alloc (.cells #[.string x] 9)).ownsRow w1.heap.size 9 1 u6 i ((P.take i).map Value.string)):=fun W h=>by
    have:=own_al (own_next HY.out.1 (bnext ((Below.refl _ _).drew) h) (Nat.le_refl _)) (.cells #[.string x] 9)
    rw [OwnS,HY.out.2.2.2.2.2] at this; exact this
   have HM1:Hid (i+1≤maxLen∧(i+1) * 16≤140737488355328):=by have:=HY.out; refine ⟨?_,?_⟩; unfold maxLen; omega; omega
   have HS0:Hid (∀ W,Below wr.drew.heap.size wr.drew W→w1.heap.size≤(W.alloc (.cells #[.string x] 9)).heap.size):=fun W h=>by have:=(bnext hd h).size; simp; omega
   have HG:Hid (∀ w2 w3,Below wr.drew.heap.size wr.drew w2→(w2.alloc (.cells #[.string x] 9)).grownBy w3 u6.ownBlock→Below w1.heap.size w1 w3):=fun w2 w3 h1 h2=>(bal (bnext hd h1) _).grown h2 (by have:=(bnext hd h1).size; simp; omega) (fun q hq=>(HY.out.1.lt q hq).1)
   have HK:Hid (∀ W,Below wr.drew.heap.size wr.drew W→W.cell? ⟨g,i * 2,none⟩=some (.int .i64 (t:Int))∧W.cell? ⟨g,i * 2+1,none⟩=some (.int .i64 (z:Int))):=fun W h=>HK0.out W (bnext hd h)
   have HK3:Hid (∀ w2 w3,Below wr.drew.heap.size wr.drew w2→(w2.alloc (.cells #[.string x] 9)).grownBy w3 u6.ownBlock→w3.cell? ⟨g,i * 2,none⟩=some (.int .i64 (t:Int))∧w3.cell? ⟨g,i * 2+1,none⟩=some (.int .i64 (z:Int))):=fun w2 w3 h1 h2=>HK0.out w3 (HG.out w2 w3 h1 h2)
   have kk:=HK0.out wr.drew hd
   have HD:Hid (Below w1.heap.size w1 wr.drew):=hd
   clear ho hb2 hoM hs40 hz hM htz hti hPi t1 t2 t3 t4 t5 hz0 hx hlM hi hlt hd hy
   go_upto_region 6 with (fail)
   go_region_held3 (fun w'=>w'.cell? ⟨g,i * 2,none⟩=some (.int .i64 (t:Int))∧w'.cell? ⟨g,i * 2+1,none⟩=some (.int .i64 (z:Int))) (first | assumption | (exact HK3.out _ _ hb2 hgrow) | (exact HK.out _ hb2) | (exact HK.out _ (bal hb2 _))) (first
    | (go_at_call 112; with_reducible refine (HTr.out _ HD.out).mono ?_; rintro e w2 ⟨rfl,hb2⟩)
    | (refine step_append_lies _ (by rfl) _ _ _ (by rfl) w1.heap.size 9 i0 _ 1 16 Tryz.underlying22 hi0' hz0' hz1 hz2 rfl (by omega) u6 i ((P.take i).map Value.string) (by rfl) (HO2.out _ hb2) ⟨w2.heap.size,0,none⟩ 1 1 [.string x] (by rfl) (by rfl) (World.news_of_block (cs:=#[.string x]) (t:=9) (fr:=(0,0)) (heap_alloc_new w2 _)) (by simp [Value.oneCell']) (by omega) HM1.out.1 HM1.out.2 (HS0.out _ hb2) (w2.heap.size+1) (by simp) ?_; intro gg cap_1 w3 hown3 hgrow hat hlt3))
   have HZ:Hid (OwnS w3 w1.heap.size (.slice (some ⟨gg,0,none⟩) (i+1) cap_1) (P.take (i+1))∧Below w1.heap.size w1 w3):=⟨by
    obtain ⟨y1,y2,y3,y4,y5,y6⟩:=HY.out
    rw [OwnS,← y3,List.length_append,y6,List.map_append]; exact hown3,HG.out _ _ hb2 hgrow⟩
   clear hown3 hgrow hat hlt3 HG HK3 HK HK0 HTr HO2 HS0 kk
   go_wp2
   go_roundg (q - (i+1))
   case rel =>
    go_light
    exact ⟨i+1,HY.out.2.2.2.1,rfl,by go_num,HZ.out.1,HZ.out.2⟩
   case measure=>go_light; have:=HY.out.2.2.2.1; omega
  ·obtain rfl:i=q:=by omega
   have hlt' : ¬ ((i:Int)<(i:Int)):=by omega
   have HZ:Hid (OwnS wr w.heap.size u6 P∧Below w.heap.size w wr):=⟨by
    rw [List.take_of_length_le (by have:=HL.out; omega)] at ho
    exact World.ownsRow.mono ho HB1.out.size,bnext HB1.out hb2⟩
   clear ho hb2 hi hlt HO HV
   go_wp2
   go_ret
   exact ⟨_,rfl,HZ.out.1,HZ.out.2⟩
set_option maxRecDepth 100000 in
theorem rroot_ok (w:World) (ht:Tr w) (k:Int) (h1:1≤k) (h2:k≤32) (ao:Option Addr) (b off len cap:Nat) (L:List ByteArray) (hr:RdS w ao b off len L) (hsz : ∀ s∈L,s.size≤140737488351232) (hmx:len≤1099511627776) (hc:len≤cap) (n:Nat) (hn:n≤len) (r:ByteArray) (hq:Hid (rtD (clk k) L n=r)) :
  Calls Tryz.prog 21 #[.int .i64 k,.slice ao len cap,.int .u64 (n:Int)] w fun e w'=>e = .returned (.tuple #[.agg #[.int .u64 (n:Int),.string r],.int .i64 0])∧Below w.heap.size w w':=by
 have HC:=fun W=>refcheck_any W k
 rw [chk_ok h1 h2] at HC
 have e0:IntKind.u64.wrap (len:Int)=(len:Int):=wrap_u _ (by omega) (by omega)
 have hn' : ¬ ((len:Int)<(n:Int)):=by omega
 have hn2:(n:Int)≤(cap:Int):=by omega
 obtain ⟨P,hP⟩ : ∃ P,Hid (pks (clk k) (L.take n) 41=P):=⟨_,rfl⟩
 have HPk:Hid (∀ W,Below w.heap.size w W→Calls Tryz.prog 60 #[.int .i64 k,.slice ao n cap] W fun e w' => ∃ v,e = .returned v∧OwnS w' W.heap.size v P∧Below W.heap.size W w'):=fun W hb=>rpeaks_any W (ht.next hb) k ao b off n cap (L.take n) ((hr.next hb (Nat.le_refl _)).take hn) (fun s hs=>hsz s (List.mem_of_mem_take hs)) (by omega) (by omega) P hP
 have zP : ∀ s∈P,s.size≤140737488351232:=by rw [← hP.out]; exact small (clk_le k)
 have lP:P.length≤41:=by rw [← hP.out]; exact pks_len _ _ _
 have HQ:Hid (dg (clk k) (rootT n (bagL (clk k) P))=r):=by rw [← hP.out]; exact hq
 have HRo:Hid (∀ W,Below w.heap.size w W → ∀ ao' b' cap',RdS W ao' b' 0 P.length P→Calls Tryz.prog 59 #[.int .i64 k,.int .u64 (n:Int),.slice ao' P.length cap'] W fun e w'=>e = .returned (.string r)∧Below W.heap.size W w'):=fun W hb ao' b' cap' hr'=>refroot_any W (ht.next hb) k n (by omega) ao' b' 0 P.length cap' P hr' zP (by omega) r HQ.out
 have HZ:Hid (∀ s∈P,s.size≤9223372036854775807):=fun s hs=>Nat.le_trans (zP s hs) (by decide)
 have hb:=Below.refl w.heap.size w
 have HN:=rt_new w 0 ⟨#[]⟩ 50
 rw [show ((0:Nat):Int)=0 from rfl] at HN
 have HN2:=hide HN
 clear h1 h2 hn hmx hc hr hsz ht hq hP zP lP HQ HN
 go_enter Tryz.func21,Tryz.ntmps21
 go_wp2_with (first
  | (go_at_call 58; with_reducible refine (HC _).mono ?_; rintro e w1 ⟨rfl,rfl⟩)
  | (go_at_call 60; with_reducible refine (HPk.out _ (bal hb _)).mono ?_; rintro e w2 ⟨v,rfl,ho,hb2⟩; obtain ⟨ao',b',cap',rfl,hr',_,_⟩:=owns_rds ho HZ.out)
  | (go_at_call 59; with_reducible refine (HRo.out _ (bnext (bal hb _) hb2) _ _ _ hr').mono ?_; rintro e w3 ⟨rfl,hb3⟩; have hR:=(HN2.out.below hb2 (by simp)).below hb3 (by have:=hb2.size; simp at this; omega); have k0:=hR.c0; have k1:=hR.c1; have f0:=hR.f0; have f1:=hR.f1))
 have s0:(w3.setCell ⟨w.heap.size,0,none⟩ (.int .u64 (n:Int))).cell? ⟨w.heap.size,0,none⟩=some (.int .u64 (n:Int)):=World.cell?_setCell_same _ _ _ k0
 have s1:((w3.setCell ⟨w.heap.size,0,none⟩ (.int .u64 (n:Int))).setCell ⟨w.heap.size,1,none⟩ (.string r)).cell? ⟨w.heap.size,1,none⟩=some (.string r) :=
  World.cell?_setCell_same _ _ _ ((World.cell?_setCell_other _ _ _ _ (by simp)).trans k1)
 refine bodyPost_ret (v := .tuple #[.agg #[.int .u64 (n:Int),.string r],.int .i64 0]) (by simp [results,Tryz.results21,go_sem,s0,s1]) rfl ⟨rfl,?_⟩
 exact ((bnext (bnext (bal hb _) hb2) hb3).setCell (p:=⟨w.heap.size,0,none⟩) (Nat.le_refl _) _).setCell (p:=⟨w.heap.size,1,none⟩) (Nat.le_refl _) _
end Go.Proofs.YtoblgjledefdbaaGreatDoor
namespace Go.Proofs.YtoblgjledefdbaaGreatDoor
open Go.RowKit
attribute [local go_sem ↓] Go.wp_at_zero Go.wp_at_succ
attribute [local go_sem ↓] St.exec_appR
def LmS (w W:World) (a p:Nat) (v:Value) (i:Nat) (K:List ByteArray) (D:St.DV):Prop :=
 Jn w W a p D (St.sA 8 (itL 8 K)) K v K∧K.length≤i∧(∀ s∈K,s.size≤5000)∧St.Qt 4194304 D∧St.Ext 8 (itL 8 K) D.L∧D.acts≤6+6 * i
theorem lm_fit {K:List ByteArray} (h1:K.length≤21) (h2 : ∀ s∈K,s.size≤5000):Fit 8 4194304 5000 K :=
 ⟨by decide,by decide,by decide,by omega,h2,by omega,by decide⟩
theorem lm_snoc {K:List ByteArray} {x:ByteArray} {c:Nat} (h2 : ∀ s∈K,s.size≤c) (hx:x.size≤c) : ∀ s∈K++[x],s.size≤c:=fun s hs=>by
 rcases List.mem_append.1 hs with e | e
 ·exact h2 s e
 ·rw [List.mem_singleton] at e; subst e; exact hx
section
variable {w W:World} {a p i:Nat} {v:Value} {K:List ByteArray} {D:St.DV}
theorem LmS.keep (h:LmS w W a p v i K D):LmS w W a p v (i+1) K D:=by
 obtain ⟨h1,h2,h3,h4,h5,h6⟩:=h
 exact ⟨h1,by omega,h3,h4,h5,by omega⟩
theorem LmS.one (h:LmS w W a p v i K D) (ht:Tb w) (hi:i<20) (x:ByteArray) (hx:x.size≤5000) :
  ∃ D',Calls Tryz.prog 14 #[.pointer (some ⟨a,0,none⟩),.slice (some ⟨W.heap.size,0,none⟩) 1 1] (W.alloc (.cells #[.string x] 9)) (fun e w'=>e = .returned (.tuple #[.int .i64 1,.int .i64 0])∧Jn w w' a p D' (St.sA 8 (itL 8 (K++[x]))) (K++[x]) v K) ∧
   ∀ W' v',Jn w W' a p D' (St.sA 8 (itL 8 (K++[x]))) (K++[x]) v' (K++[x])→LmS w W' a p v' (i+1) (K++[x]) D':=by
 obtain ⟨h1,h2,h3,h4,h5,h6⟩:=h
 have hs:=lm_snoc h3 hx
 have hl:(K++[x]).length=K.length+1:=by simp
 have hf:=lm_fit (by omega) hs
 obtain ⟨D',a1,a2,a3,a4,a5⟩:=ap_qt [x] K D hf h4 h5 (by simp only [List.length_cons,List.length_nil]; omega)
 refine ⟨D',?_,fun W' v' hJ=>⟨hJ,by omega,hs,a2,a3,by rw [a4]; simp only [List.length_cons,List.length_nil]; omega⟩⟩
 exact h1.append ht (sA_len hf.init) (bal (Below.refl _ _) _) _ W.heap.size 1 1 [x] (rds_one W x (by omega)) (by decide) (fun _ => .inr (Nat.le_refl _)) a5 1 0 a1
end
theorem two_new {w9 w10:World} {x y:Value} {T:Nat} (v:Below (w9.alloc (.cells #[x,y] T)).heap.size (w9.alloc (.cells #[x,y] T)) w10):(w10.alloc (.cells #[x,y] T)).cell? ⟨w9.heap.size,0,none⟩=some x∧(w10.alloc (.cells #[x,y] T)).cell? ⟨w9.heap.size,1,none⟩=some y:=by
 have k0:=(bnext v (bal (Below.refl _ _) (.cells #[x,y] T))).block w9.heap.size (by simp)
 rw [heap_alloc_new] at k0
 exact ⟨by rw [cell_of_row _ _ 0 _ _ (0,0) k0]; rfl,by rw [cell_of_row _ _ 1 _ _ (0,0) k0]; rfl⟩
structure LmT (w W:World) (a p:Nat) (va:Option Addr) (vn vc:Nat) (fa fk:Int) (e1:Int) (rt:ByteArray) (J1 J2:World→Prop):Prop where
 lay:Calls Tryz.prog 12 #[.pointer (some ⟨p,0,none⟩),.agg #[.int .i64 fa,.int .i64 fk,.slice none 0 0]] W fun e w'=>e = .returned (.tuple #[])∧J1 w'
 more : ∀ W,J1 W→Calls Tryz.prog 14 #[.pointer (some ⟨a,0,none⟩),.slice (some ⟨W.heap.size,0,none⟩) 1 1] (W.alloc (.cells #[.string ⟨#[109,111,114,101]⟩] 9)) fun e w'=>e = .returned (.tuple #[.int .i64 0,.int .i64 e1])∧J2 w'
 e1:e1=171∨e1=172
 has : ∀ W,J2 W→Calls Tryz.prog 19 #[.pointer (some ⟨a,0,none⟩),.slice va vn vc] W fun e w'=>e = .returned (.bool true)∧J2 w'  ∧ Below W.heap.size W w'
 empt : ∀ W,J2 W→Calls Tryz.prog 14 #[.pointer (some ⟨a,0,none⟩),.slice none 0 0] W fun e w'=>e = .returned (.tuple #[.int .i64 0,.int .i64 0])∧J2 w'
 again : ∀ W,J2 W→Calls Tryz.prog 14 #[.pointer (some ⟨a,0,none⟩),.slice (some ⟨W.heap.size,0,none⟩) 1 1] (W.alloc (.cells #[.string ⟨#[97,103,97,105,110]⟩] 9)) fun e w'=>e = .returned (.tuple #[.int .i64 0,.int .i64 191])∧J2 w'
 root : ∀ W,J2 W→Calls Tryz.prog 20 #[.pointer (some ⟨a,0,none⟩),.int .u64 (vn:Int)] W fun e w'=>e = .returned (.tuple #[.agg #[.int .u64 (vn:Int),.string rt],.int .i64 0])∧J2 w'
 ref : ∀ W,J2 W→Calls Tryz.prog 21 #[.int .i64 8,.slice va vn vc,.int .u64 (vn:Int)] W fun e w'=>e = .returned (.tuple #[.agg #[.int .u64 (vn:Int),.string rt],.int .i64 0])∧J2 w'∧Below W.heap.size W w'
 next : ∀ W W',J2 W→Below W.heap.size W W'→J2 W'
 close : ∀ W,J2 W→Calls Tryz.prog 22 #[.pointer (some ⟨a,0,none⟩)] W fun e w'=>e = .returned (.int .i64 0)∧Cls w w' a
section
variable {w W:World} {a p i:Nat} {va:Option Addr} {vn vc:Nat} {K:List ByteArray} {D:St.DV}
set_option maxRecDepth 100000 in
theorem LmS.tail (h:LmS w W a p (.slice va vn vc) i K D) (hi:i≤20) (ht:Tb w) (hT:Tr w) (fa fk:Int) (f1:1≤fa) (f2:fa≤6) (f3:1≤fk) (f4:fk≤3) : ∃ e1 rt J1 J2,LmT w W a p va vn vc fa fk e1 rt J1 J2:=by
 obtain ⟨h1,h2,h3,h4,h5,h6⟩:=h
 have hvn:=own_vn h1.own
 obtain ⟨more,hmore⟩ : ∃ s:ByteArray,s=⟨#[109,111,114,101]⟩:=⟨_,rfl⟩
 obtain ⟨again,hagain⟩ : ∃ s:ByteArray,s=⟨#[97,103,97,105,110]⟩:=⟨_,rfl⟩
 have z1:more.size=4:=by rw [hmore]; rfl
 have z2:again.size=5:=by rw [hagain]; rfl
 have hf:=lm_fit (by omega) h3
 have hf1:Fit 8 4194304 5000 (K++[more]):=lm_fit (by simp; omega) (lm_snoc h3 (by omega))
 obtain ⟨D1,e1,a1,a2,a3,a4,a5⟩:=hit_one hf1 (by omega) (by decide) (by omega) h4 h5 (by omega) fa fk f1 f2 f3 f4
 obtain ⟨b1,b2⟩:=lame_one (x:=again) hf (by omega) (by omega) a5
 have hs:=sA_len hf
 obtain ⟨rt,hrt⟩ : ∃ r,rtD 8 K vn=r:=⟨_,rfl⟩
 have hrd : ∀ {W:World} {D:St.DV} {S:St.SV},Jn w W a p D S K (.slice va vn vc) K→(∃ b,RdS W va b 0 vn K)∧vn≤vc:=fun hJ=>by
  obtain ⟨ao,b,cap,q1,q2,q3,_⟩:=owns_rds hJ.own (fun s hs=>by have:=h3 s hs; omega)
  injection q1 with g1 g2 g3
  subst g1 g3
  rw [hvn] at q2 q3
  exact ⟨⟨b,q2⟩,q3⟩
 refine ⟨e1,rt,fun W=>Jn w W a p (St.layD D fa fk []) (St.sA 8 (itL 8 K)) K (.slice va vn vc) K,fun W=>Jn w W a p D1 { St.sA 8 (itL 8 K) with lame:=true } K (.slice va vn vc) K,?_,fun W hJ => ?_,a2,fun W hJ => ?_,fun W hJ => ?_,fun W hJ => ?_,fun W hJ => ?_,fun W hJ => ?_,fun W W' hJ hb=>hJ.next hb,fun W hJ=>hJ.nl.close⟩
 ·exact h1.lay ht fa fk (by omega)
 ·rw [← hmore]
  exact hJ.append ht hs (bal (Below.refl _ _) _) _ W.heap.size 1 1 [more] (rds_one W more (by omega)) (by decide) (fun _ => .inr (Nat.le_refl _)) a4 0 e1 a1
 ·obtain ⟨⟨b,q1⟩,q2⟩:=hrd hJ
  exact (hJ.nl.has ht hs (fun i x hx=>a3.get rfl hx) va b vn vc q1 (by omega)).mono fun e w' z=>⟨z.1,hJ.next z.2,z.2⟩
 ·exact hJ.append ht hs (Below.refl _ _) none 0 0 0 [] ⟨rfl,fun h=>absurd h (by decide),fun j v hv=>by simp at hv,fun x hx=>by cases hx⟩ (by decide) (fun h=>absurd h (by decide)) trivial 0 0 rfl
 ·rw [← hagain]
  exact hJ.append ht hs (bal (Below.refl _ _) _) _ W.heap.size 1 1 [again] (rds_one W again (by omega)) (by decide) (fun _ => .inr (Nat.le_refl _)) b2 0 191 b1
 ·exact (hJ.nl.root ht vn (by omega) rt hrt).mono fun e w' z=>⟨z.1,hJ.next z.2⟩
 ·obtain ⟨⟨b,q1⟩,q2⟩:=hrd hJ
  exact (rroot_ok W (hT.next hJ.nl.below) 8 (by decide) (by decide) va b 0 vn vc K q1 (fun s hs=>by have:=h3 s hs; omega) (by omega) q2 vn (Nat.le_refl _) rt (hide hrt)).mono fun e w' z=>⟨z.1,hJ.next z.2,z.2⟩
end
set_option maxRecDepth 100000 in
set_option maxHeartbeats 8000000 in
theorem lame_walk (w:World) (ht:Tb w) (hT:Tr w) (ao:Option Addr) (b off len cap:Nat) (xs:List ByteArray) (hr:RdS w ao b off len xs) (hmx:len≤9223372036854775807) (a1 a2:Int) :
  Calls Tryz.prog 4 #[.slice ao len cap,.int .i64 a1,.int .i64 a2] w fun e w'=>e = .returned (.bool true)∧Below w.heap.size w w':=by
 obtain ⟨D0,o1,o2,o3,o4⟩:=lo_new (k:=8) (R:=4194304) (by decide) (by decide)
 obtain ⟨r,hrl⟩ : ∃ r,min len 20=r:=⟨_,rfl⟩
 have hr12:r≤20∧r≤len∧(r=20∨r=len):=by omega
 have HA:=hide (lalive_any w ht)
 have HN:Hid (∀ W,Below w.heap.size w W→Calls Tryz.prog 10 #[.int .i64 4194304] W fun e w' => ∃ p,e = .returned (.pointer (some ⟨p,0,none⟩))∧Dw w w' p (St.newD 4194304)):=fun W hW=>(new_dw W 4194304 (by decide)).mono fun e w' z=>by
  obtain ⟨p,z1,z2⟩:=z
  exact ⟨p,z1,z2.base hW⟩
 have HO:Hid (∀ W p,Dw w W p (St.newD 4194304)→Calls Tryz.prog 11 #[.pointer (some ⟨p,0,none⟩),.int .i64 8] W fun e w' => ∃ a,e = .returned (.tuple #[.pointer (some ⟨a,0,none⟩),.int .i64 0])∧LmS w w' a p (.slice none 0 0) 0 [] D0):=fun W p h=>(h.open ht (rm_new 8 (by decide)) 8 o1).mono fun e w' z=>by
  obtain ⟨a,z1,z2,_⟩:=z
  exact ⟨a,z1,z2.jn,Nat.le_refl _,(fun s hs=>by cases hs),o2,o3,by omega⟩
 have HR:=hide hr
 have HTb:=hide ht
 have HTr:=hide hT
 have hptr:=hr.ptr
 clear o1 o2 o3 o4 ht hT hr hrl
 go_enter Tryz.func4,Tryz.ntmps4
 go_upto_region 9 with (first
  | (go_at_call 9; (with_reducible refine HA.out.mono ?_); rintro e w1 ⟨rfl,u1⟩)
  | (go_at_call 10; (with_reducible refine (HN.out _ u1).mono ?_); rintro e w2 ⟨p,rfl,t2⟩)
  | (go_at_call 11; (with_reducible refine (HO.out _ _ t2).mono ?_); rintro e w3 ⟨a,rfl,t3⟩))
 have HS3:=hide t3
 clear HA HN HO u1 t2 t3
 go_loopg [10,11] r (fun g v x wr => ∃ (i:Nat) (K:List ByteArray) (D:St.DV),i≤r∧g=r - i∧x = .int .i64 (i:Int)∧Hid (LmS w wr a p v i K D))
 case atStart =>
  go_light
  exact ⟨0,[],D0,Nat.zero_le _,rfl,rfl,HS3⟩
 case round =>
  clear HS3
  obtain ⟨i,K,D,hi,rfl,rfl,HS⟩:=hrel
  obtain ⟨va,vn,vc,rfl⟩:=own_slice3 HS.out.1.own
  have hvn:=own_vn HS.out.1.own
  by_cases hlt:i<r
  ·have hz:(i:Int)<(len:Int):=by omega
   have hz1:(i:Int)<20:=by omega
   obtain rfl:=hptr (by omega)
   have hB:=HS.out.1.nl.below
   obtain ⟨s,hs⟩ : ∃ s,xs.getD i ByteArray.empty=s:=⟨_,rfl⟩
   have HC:Hid (∀ W,Below w.heap.size w W→W.cell? ⟨b,off+i,none⟩=some (.string s)):=fun W hW=>by
    have:=(HR.out.next hW (Nat.le_refl _)).at (k:=i) (by omega)
    rw [hs] at this
    exact this
   have ew:IntKind.i64.wrap ((i:Int)+1)=(i:Int)+1:=by rw [IntKind.wrap_i64]; omega
   have c0:=HC.out wr hB
   clear hs
   by_cases hg:s.size≤5000
   ·have hg1:(s.size:Int)≤5000:=by omega
    obtain ⟨D',hap,hnx⟩:=HS.out.one HTb.out (by omega) s hg
    have HAp:=hide hap
    have HNx:=hide hnx
    have HAp2:Hid (∀ W1,Jn w W1 a p D' (St.sA 8 (itL 8 (K++[s]))) (K++[s]) (.slice va vn vc) K→W1.cell? ⟨b,off+i,none⟩=some (.string s) ∧ ∃ ao n cap w5,(Builtin.append_ #[22,22] 22 #[.slice va vn vc,.slice (some ⟨W1.heap.size,0,none⟩) 1 1]).run Tryz.prog (W1.alloc (.cells #[.string s] 9)) = .ok (.slice ao n cap) w5∧LmS w w5 a p (.slice ao n cap) (i+1) (K++[s]) D'):=fun W1 hJ=>by
     refine ⟨HC.out W1 hJ.nl.below,?_⟩
     obtain ⟨v',w5,q1,q2⟩:=hJ.app (bal (Below.refl _ _) (.cells #[.string s] 9)) 22 ⟨W1.heap.size,0,none⟩ 1 s (St.one_new W1 _ _) (by have:=HS.out.2.1; omega)
     obtain ⟨ao,n,cap,rfl⟩:=own_slice3 q2.own
     exact ⟨ao,n,cap,w5,q1,HNx.out w5 _ q2⟩
    clear hap hnx hB hg HC HNx HS hvn
    go_wp2_with (go_at_call 14; (with_reducible refine HAp.out.mono ?_); rintro e w4 ⟨rfl,t4⟩; obtain ⟨c4,ea,en,ec,w5,h5,t5⟩:=HAp2.out w4 t4; have ha:=St.appR_of h5; have T5:=hide t5; clear HAp HAp2 c0 t4 t5 h5)
    go_roundg (r - (i+1))
    case rel =>
     go_light
     exact ⟨i+1,K++[s],D',by omega,rfl,by go_num,T5⟩
    case measure=>go_light; omega
   ·have hg1 : ¬ (s.size:Int)≤5000:=by omega
    have HNx:Hid (LmS w wr a p (.slice va vn vc) (i+1) K D):=HS.out.keep
    clear hB hg HC HS hvn
    go_wp2
    go_roundg (r - (i+1))
    case rel =>
     go_light
     exact ⟨i+1,K,D,by omega,rfl,by go_num,HNx⟩
    case measure=>go_light; omega
  ·obtain rfl:i=r:=by omega
   have hex : ¬ ((i:Int)<(len:Int))∨(((i:Int)<(len:Int)) ∧ ¬ (i:Int)<20):=by omega
   obtain ⟨fa,hfa⟩ : ∃ f,1+a1 % 6=f:=⟨_,rfl⟩
   obtain ⟨fk,hfk⟩ : ∃ f,1+a2 % 3=f:=⟨_,rfl⟩
   have HR1:=hide (fun W=>lrest_any W a1 6 (by decide) (by decide) _ rfl)
   have HR2:=hide (fun W=>lrest_any W a2 3 (by decide) (by decide) _ rfl)
   have ew1:IntKind.i64.wrap (1+a1 % 6)=fa:=by rw [IntKind.wrap_i64]; omega
   have ew2:IntKind.i64.wrap (1+a2 % 3)=fk:=by rw [IntKind.wrap_i64]; omega
   have hvl:vn≤20:=by have:=HS.out.2.1; omega
   have ew3:IntKind.u64.wrap (vn:Int)=(vn:Int):=by rw [IntKind.wrap_u64]; omega
   have HB:=hide HS.out.1.nl.below
   obtain ⟨e1,rt,J1,J2,q⟩:=HS.out.tail (by omega) HTb.out HTr.out fa fk (by omega) (by omega) (by omega) (by omega)
   have HL:=hide q.lay
   have HM:=hide q.more
   have HE:=hide q.e1
   have HH:=hide q.has
   have HN:=hide q.empt
   have HG:=hide q.again
   have HRo:=hide q.root
   have HRf:=hide q.ref
   have HX:=hide q.next
   have HC:=hide q.close
   clear q HS hfa hfk hvl hvn hlt hi hptr HR
   rcases hex with hz | ⟨hz,hz1⟩
   all_goals
    go_upto_region 14 with (fail)
    go_upto_region 16 with (first
     | (go_at_call 13; (with_reducible refine (HR1.out _).mono ?_); rintro e wa ⟨rfl,rfl⟩)
     | (go_at_call 13; (with_reducible refine (HR2.out _).mono ?_); rintro e wa ⟨rfl,rfl⟩)
     | (go_at_call 12; (with_reducible refine HL.out.mono ?_); rintro e w4 ⟨rfl,t4⟩)
     | (go_at_call 14; (with_reducible refine (HM.out _ t4).mono ?_); rintro e w5 ⟨rfl,t5⟩))
    clear HL HM t4
    rcases HE.out with rfl | rfl
    all_goals
     clear HE
     go_upto_region 21 with (first
      | (go_at_call 19; (with_reducible refine (HH.out _ t5).mono ?_); rintro e w6 ⟨rfl,t6,v6⟩)
      | (go_at_call 14; (with_reducible refine (HN.out _ t6).mono ?_); rintro e w7 ⟨rfl,t7⟩)
      | (go_at_call 14; (with_reducible refine (HG.out _ t7).mono ?_); rintro e w8 ⟨rfl,t8⟩)
      | (go_at_call 20; (with_reducible refine (HRo.out _ t8).mono ?_); rintro e w9 ⟨rfl,t9⟩))
     go_upto_region 22 with (go_at_call 21; (with_reducible refine (HRf.out _ (HX.out _ _ t9 (bal (Below.refl _ _) _))).mono ?_); rintro e w10 ⟨rfl,t10,v10⟩)
     obtain ⟨k1,k2⟩:=two_new v10
     clear HR1 HR2 HN HG HRo HRf t5 t6 t7 t8 t9 v6 v10
     go_wp2_with (first
      | (go_at_call 19; (with_reducible refine (HH.out _ (HX.out _ _ t10 (bal (Below.refl _ _) _))).mono ?_); rintro e w11 ⟨rfl,t11,v11⟩)
      | (go_at_call 22; (with_reducible refine (HC.out _ t11).mono ?_); rintro e w12 ⟨rfl,t12⟩)
      | (go_at_call 22; (with_reducible refine (t12.close).mono ?_); rintro e w13 ⟨rfl,t13⟩))
     go_ret
     exact ⟨rfl,t13⟩
end Go.Proofs.YtoblgjledefdbaaGreatDoor
