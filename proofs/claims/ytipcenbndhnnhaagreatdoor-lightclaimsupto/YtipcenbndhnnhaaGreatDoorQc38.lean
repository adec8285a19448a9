/- Own work. -/
import Derived.Deep.RegionHeld3
import Derived.Test.YtipcenbndhnnhaaGreatDoorQc37
namespace Go.Proofs.YtipcenbndhnnhaaGreatDoor
open Go.RowKit
open Cv (RdC zl cU)
attribute [local go_sem ↓] Go.wp_at_zero Go.wp_at_succ
theorem take_getD' {α:Type} (d:α) (l:List α) (j:Nat) (h:j<l.length):l.take (j+1)=l.take j++[l.getD j d]:=by
 rw [List.take_add_one,List.getD_eq_getElem?_getD,List.getElem?_eq_getElem h]; rfl
set_option maxRecDepth 100000 in
set_option maxHeartbeats 1000000 in
theorem rpk_any (w:World) (hT:Tr w) (k:Int) (n:Nat) (h40:n≤2^40) (ao:Option Addr) (g cap:Nat) (K:List He) (hR:RdH w ao g K.length K) (hKl:K.length≤100000000) (hF:Fn K) (hKb : ∀ e∈K,e.1.1≤40∧e.1.2<2^40∧e.2.size≤32) (P:List ByteArray) (M:List (Nat×Nat)) (hM:Cv.dnL 41 0 n=M) (hP:P.length=M.length) (hTl : ∀ j,j<M.length→Tl (clk k) K (M.getD j (0,0)).1 (M.getD j (0,0)).2 (P.getD j ByteArray.empty)) :
  Calls Tryz.prog 92 #[.int .i64 k,.int .u64 (n:Int),.slice ao K.length cap] w fun e w' => ∃ pa pb pc,e = .returned (.slice pa P.length pc)∧RdS w' pa pb 0 P.length P∧Below w.heap.size w w':=by
 have hMin : ∀ b∈M,(b.2+1) * 2^b.1≤n:=by rw [← hM]; exact dn_in n h40
 have hMl:M.length≤41:=by rw [← hM]; exact Cv.dn_len 41 0 n
 have HM:Hid (∀ W,Calls Tryz.prog 83 #[.int .u64 (n:Int)] W fun e w' => ∃ ao g cap,e = .returned (.tuple #[.slice ao M.length cap,.int .i64 0])∧RdB w' ao g 0 M.length (zl M)∧Below W.heap.size W w'):=fun W=>by
  have h:=Cv.rMountains_any n W
  rw [(mount40 n h40).1,(mount40 n h40).2,hM] at h
  refine h.mono fun e w' ⟨v,e1,e2,e3⟩ => ?_
  obtain ⟨ao,g,n',cap,rfl,hr',_⟩:=own_rdB e2 (fun b hb=>by
   obtain ⟨b0,hb0,rfl⟩:=List.mem_map.1 hb
   exact (fit40 (hMin b0 hb0) h40).1)
  have hl:=hr'.len
  rw [Cv.zl_len] at hl
  subst hl
  exact ⟨ao,g,cap,e1,hr',e3⟩
 have hPs : ∀ s∈P,s.size≤32:=fun s hs=>by
  obtain ⟨j,hj,rfl⟩:=List.getElem_of_mem hs
  have:=(hTl j (by omega)).size (clk_le k) (fun e he=>(hKb e he).2.2)
  rwa [List.getD_eq_getElem?_getD,List.getElem?_eq_getElem hj] at this
 have HU:Hid (∀ W,Below w.heap.size w W → ∀ j,j<M.length→Calls Tryz.prog 141 #[.int .i64 k,.agg #[.int .i64 ((M.getD j (0,0)).1:Nat),.int .u64 ((M.getD j (0,0)).2:Nat)],.slice ao K.length cap] W fun e w'=>e = .returned (.tuple #[.string (P.getD j ByteArray.empty),.bool true])∧Below W.heap.size W w'):=fun W hb j hj=>by
  have hm:M.getD j (0,0)∈M:=by rw [List.getD_eq_getElem?_getD,List.getElem?_eq_getElem hj]; exact List.getElem_mem _
  have h1:=hMin _ hm
  exact rup_any k _ (fit40 h1 h40).2.1 _ (Nat.le_trans h1 h40) K _ W ao g cap (hT.next hb) (hR.next hb) hKl hF (hTl j hj) hKb
 have HQ:Hid (P.length=M.length∧M.length≤41∧(∀ s∈P,s.size≤32)):=⟨hP,hMl,hPs⟩
 have hmz:(M.length:Int)≤41:=by omega
 clear hT hR hKl hF hKb hM hP hTl hMin hMl hPs h40
 go_enter Tryz.func92,Tryz.ntmps92
 go_upto_region 2 with (go_at_call 83; with_reducible refine (HM.out _).mono ?_; rintro e w1 ⟨ma,mg,mc,rfl,hRm,hb1⟩)
 have HR:=hide (And.intro hRm hb1)
 clear hRm hb1 HM
 go_wp2
 go_loopg [9,10] M.length (fun gh v jj wr => ∃ j:Nat,j≤M.length∧gh=M.length - j∧jj = .int .i64 (j:Int)∧Hid (OwnS wr w1.heap.size v (P.take j))∧Hid (Below w1.heap.size w1 wr))
 case atStart =>
  go_light
  exact ⟨0,Nat.zero_le _,rfl,rfl,owns_nil _ _,Below.refl _ _⟩
 case round =>
  obtain ⟨j,hj,rfl,rfl,HO,HB⟩:=hrel
  by_cases hlt:j<M.length
  ·have hz:(j:Int)<(M.length:Int):=by omega
   have hz0:(0:Int)≤(j:Int):=Int.natCast_nonneg _
   have hrd:=HR.out.1.below HB.out
   obtain rfl:=hrd.addr (by omega)
   obtain ⟨c0,c1⟩:=hrd.cell j hlt
   have HUj:=HU.out wr (bnext HR.out.2 HB.out) j hlt
   have htk:=take_getD' ByteArray.empty P j (by rw [HQ.out.1]; exact hlt)
   have hys:=HQ.out.2.2 _ (getD_mem (show j<P.length by rw [HQ.out.1]; exact hlt))
   obtain ⟨y,hy⟩ : ∃ y,P.getD j ByteArray.empty=y:=⟨_,rfl⟩
   obtain ⟨⟨mh,mk⟩,hx⟩ : ∃ x,M.getD j (0,0)=x:=⟨_,rfl⟩
   rw [Cv.zl_getD,hx] at c0 c1
   rw [Nat.zero_add] at c0 c1
   rw [hx,hy] at HUj
   rw [hy] at htk hys
   simp only at HUj
   have HG:Hid (P.take (j+1)=P.take j++[y]∧y.size≤9223372036854775807∧(P.take j).length≤41∧j<M.length):=⟨htk,by omega,by rw [List.length_take]; have:=HQ.out.1; have:=HQ.out.2.1; omega,hlt⟩
   clear hrd htk hys hy hx hlt hj
   go_wp2_with (first
    | (go_at_call 141; with_reducible refine HUj.mono ?_; rintro e w2 ⟨rfl,hb2⟩)
    | (at_builtin; refine wpList_append_S _ rfl _ _ rfl w1.heap.size _ (P.take j) rfl (own_al (own_next HO.out hb2 (Nat.le_refl _)) _) (some ⟨w2.heap.size,0,none⟩) w2.heap.size 0 1 [y] rfl (rds_one w2 y HG.out.2.1) (fun h=>by cases h) ?c1 ?c2 ?_))
   case c1=>have:=HG.out.2.2.1; simp; omega
   case c2=>have:=(bnext HB.out hb2).size; simp; omega
   intro v' w3 o1 o2
   have HO2:=hide (And.intro o1 ((bal (bnext HB.out hb2) (.cells #[.string y] 9)).trans o2))
   clear o1 o2 HUj
   go_wp2
   go_roundg (M.length - (j+1))
   case rel =>
    go_light
    exact ⟨j+1,HG.out.2.2.2,rfl,by go_num,by rw [HG.out.1]; exact HO2.out.1,HO2.out.2⟩
   case measure=>go_light; have:=HG.out.2.2.2; omega
  ·obtain rfl:j=M.length:=by omega
   have hz : ¬ ((M.length:Int)<(M.length:Int)):=by omega
   have hO:=HO.out
   rw [List.take_of_length_le (by rw [HQ.out.1]; exact Nat.le_refl _)] at hO
   obtain ⟨pa,pb,pc,rfl,hRp,_⟩:=owns_rds hO (fun s hs=>by have:=HQ.out.2.2 s hs; omega)
   have HF:=hide (And.intro hRp (bnext HR.out.2 HB.out))
   clear hO hRp hlt hj HU
   go_wp2
   go_ret
   exact ⟨pa,⟨pc,rfl⟩,⟨pb,HF.out.1⟩,HF.out.2⟩
set_option maxRecDepth 100000 in
theorem rdigs_any (w:World) (k:Int) (da:Option Addr) (db dO dc:Nat) (D:List ByteArray) (hr:RdS w da db dO D.length D) (hm:D.length≤8796093022208) (n:Nat) (r:Bool) (hq:decide (fil k n D)=r) :
  Calls Tryz.prog 140 #[.int .i64 k,.slice da D.length dc,.int .i64 (n:Int)] w fun e w'=>e = .returned (.bool r)∧Below w.heap.size w w':=by
 have HR:=hide hr
 have HQ:=hide hq
 have h63:(D.length:Int)≤8796093022208:=by omega
 clear hr hm hq
 go_enter Tryz.func140,Tryz.ntmps140
 go_wp2
 go_loopg [7] D.length (fun g i wr => ∃ j:Nat,j≤D.length∧g=D.length - j∧i = .int .i64 (j:Int)∧Hid (∀ t,t<j→((D.getD t ByteArray.empty).size:Int)=k)∧w=wr)
 case atStart =>
  go_light
  exact ⟨0,Nat.zero_le _,rfl,rfl,fun t ht=>absurd ht (Nat.not_lt_zero _),rfl⟩
 case round =>
  obtain ⟨j,hj,rfl,rfl,HA,rfl⟩:=hrel
  by_cases hlt:j<D.length
  ·have hz:(j:Int)<(D.length:Int):=by omega
   have hz0:(0:Int)≤(j:Int):=Int.natCast_nonneg _
   obtain rfl:=HR.out.ptr (by omega)
   have cj:=HR.out.at hlt
   obtain ⟨x,hx⟩ : ∃ x,D.getD j ByteArray.empty=x:=⟨_,rfl⟩
   rw [hx] at cj
   by_cases hxs:(x.size:Int)=k
   ·have HN:Hid (∀ t,t<j+1→((D.getD t ByteArray.empty).size:Int)=k):=fun t ht=>by
     rcases Nat.lt_or_eq_of_le (Nat.le_of_lt_succ ht) with h | rfl
     ·exact HA.out t h
     ·rw [hx]; exact hxs
    have hxb:((x.size:Int) == k)=true:=by rw [hxs]; simp
    clear hx HA
    go_wp2
    go_roundg (D.length - (j+1))
    case rel =>
     go_light
     exact ⟨j+1,by omega,rfl,by go_num,HN.out,rfl⟩
    case measure=>go_light; omega
   ·obtain rfl:false=r:=by
     rw [← HQ.out]
     refine (decide_eq_false fun h=>hxs ?_).symm
     rw [← hx]
     exact h.2 _ (getD_mem hlt)
    clear hx HA
    go_wp2
    go_ret
    exact ⟨rfl,Below.refl _ _⟩
  ·obtain rfl:j=D.length:=by omega
   have hz : ¬ ((D.length:Int)<(D.length:Int)):=by omega
   have hE:decide (D.length=n)=r:=by
    rw [← HQ.out]
    have:fil k n D↔D.length=n:=⟨fun h=>h.1,fun h=>⟨h,fun d hd=>by
     obtain ⟨t,ht,rfl⟩:=List.getElem_of_mem hd
     have:=HA.out t ht
     rwa [List.getD_eq_getElem?_getD,List.getElem?_eq_getElem ht] at this⟩⟩
    simp only [this]
   clear HA hlt hj
   by_cases hDn:D.length=n
   ·obtain rfl:true=r:=by rw [← hE]; exact (decide_eq_true hDn).symm
    subst hDn
    clear hE
    go_wp2
    go_ret
    exact ⟨rfl,Below.refl _ _⟩
   ·obtain rfl:false=r:=by rw [← hE]; exact (decide_eq_false hDn).symm
    have hDz : ¬ (D.length:Int)=(n:Int):=by omega
    have hDb:((D.length:Int) == (n:Int))=false:=by simp; omega
    clear hE
    go_wp2
    go_ret
    exact ⟨rfl,Below.refl _ _⟩
theorem rcount_ok (n:Nat) (w:World) (ao:Option Addr) (b off m cap:Nat) (l:List Nat) (r:Cv.Rd w ao b off m l) (hm:m≤1048576) (he:Cv.errS n l=0) (q:Nat) (hq:(Cv.rst 0 n l).length=q) :
  Calls Tryz.prog 139 #[.int .u64 (n:Int),.slice ao m cap] w fun x w'=>x = .returned (.tuple #[.int .u64 (q:Int),.int .i64 0])∧Below w.heap.size w w':=by
 obtain ⟨h40,_,_,hc⟩:=Cv.errS_ok he
 have hl:=Cv.rst_len n h40 l 0 hc
 have hrl:=r.len
 have eq:IntKind.u64.wrap (q:Int)=(q:Int):=by rw [IntKind.wrap_u64]; omega
 have HR:Calls Tryz.prog 142 #[.int .u64 (n:Int),.slice ao m cap] w fun e w' => ∃ a c,e = .returned (.tuple #[.slice a q c,.int .i64 0])∧Below w.heap.size w w':=(Cv.rrest_ok n w ao b off m cap l r hm he).mono fun e w' ⟨v,e1,e2,e3⟩=>by
  have hf:(zl (Cv.rst 0 n l)).length=q:=by rw [Cv.zl_len]; exact hq
  rcases e2.2 with ⟨hv,h0⟩ | ⟨g,cp,cur,hv,_⟩
  ·exact ⟨none,0,by rw [e1,hv,show q=0 by omega],e3⟩
  ·exact ⟨_,cp,by rw [e1,hv,hf],e3⟩
 clear r hm he hq h40 hc hl hrl
 go_enter Tryz.func139,Tryz.ntmps139
 go_wp2_with (go_at_call 142; with_reducible refine HR.mono ?_; rintro e w1 ⟨a1,c1,rfl,hb1⟩)
 go_ret2
 exact ⟨rfl,hb1⟩
theorem step_app_H (w:World) {ops:Array Oper} {o:Oper} {a:Act} {K:Act→World→Prop} {Q:Exit→Act→World→Prop} {E:Prop} (hgd:o.guard=none)
  (s x:Operand) (hop:o.op=Op.call { callee:=Callee.builtin Builtin.append,args:=#[s,x],argTypes:=#[136,136] })
  (B:Nat) (v:Value) (L:List He) (hs:a.eval s=v) (hown:OwnH w B v L) (ad:Addr) (cap:Nat) (e:He) (hx:a.eval x = .slice (some ad) 1 cap) (hr : ∀ j u,(cH [e])[j]? = some u→w.cell? (ad.add j)=some u)
  (hlen:L.length+1≤1099511627776) (hB:B≤w.heap.size)
  (hK : ∀ v' w',OwnH w' B v' (L++[e])→Below B w w'→w.grownBy w' v.ownBlock→K (a.put o.dst v') w'):if Region.wanted o (yielded ops a.tmps)=true then Oper.wp Tryz.prog o a w K Q else E:=by
 have hw:Region.wanted o (yielded ops a.tmps)=true:=by simp [Region.wanted,hgd]
 rw [if_pos hw]
 obtain ⟨i0,hi,hz0,hz1,hz2⟩:=info_parts Tryz.infoH
 have hlt : ∀ k,v.ownBlock=some k→B≤k:=fun k hk=>(World.ownsRow.lt hown k hk).1
 obtain ⟨v',w',hrun,r1,r2,_⟩:=run_append_own (P:=Tryz.prog) w B 136 o.type 177 i0 (.agg #[.int .i64 0,.int .u64 0,.string ByteArray.empty]) 3 32 Tryz.underlying136 hi hz0 hz1 hz2 rfl (by decide) v L.length _ hown ad 1 cap (cH [e]) rfl hr (cH_one [e]) (by unfold maxLen; omega) (by omega) hB
 unfold Oper.wp
 simp [execOp,hop,resolve,invoke,builtin,hs,hx,hrun,Result.andThen]
 refine hK v' w' ?_ ((Below.refl _ _).grown r2 hB hlt) r2
 rw [OwnH,List.length_append,cH_app]; exact r1
theorem row_neH {w:World} {B B' e e' s s' n n' g:Nat} {v v':Value} {xs xs':List Value} (h:w.ownsRow B e s v n xs) (h':w.ownsRow B' e' s' v' n' xs') (he:e≠e') (hg:v.ownBlock=some g):v'.ownBlock≠some g:=fun hg'=>by
 obtain ⟨_,cur,hc⟩:=own_block h hg
 obtain ⟨_,cur',hc'⟩:=own_block h' hg'
 rw [hc] at hc'
 injection hc' with hc'
 injection hc' with _ h2 _
 exact he h2
theorem rdB_of {w:World} {B n c:Nat} {a:Option Addr} {R:List (Nat×Nat)} (h:Cv.OwnB w B (.slice a n c) (zl R)) (hf : ∀ b∈R,(b.2+1) * 2^b.1≤2^40) : ∃ g,RdB w a g 0 R.length (zl R):=by
 obtain ⟨ao,g,n',cap,hv,hr,_⟩:=own_rdB h (fun x hx=>by
  obtain ⟨b0,hb0,rfl⟩:=List.mem_map.1 hx
  exact (fit40 (hf b0 hb0) (Nat.le_refl _)).1)
 obtain ⟨rfl,_,_⟩:=Value.slice.inj hv
 have hl:=hr.len
 rw [Cv.zl_len] at hl
 subst hl
 exact ⟨g,hr⟩
theorem cell_H (w:World) (e:He) : ∀ j u,(cH [e])[j]? = some u→(w.alloc (.cells #[.int .i64 (e.1.1:Int),.int .u64 (e.1.2:Int),.string e.2] 177)).drew.cell? (Addr.add ⟨w.heap.size,0,none⟩ j)=some u:=fun j u hj=>by
 rw [Addr.add_mid,Nat.zero_add,cell_of_row (w.alloc (.cells #[.int .i64 (e.1.1:Int),.int .u64 (e.1.2:Int),.string e.2] 177)).drew _ _ _ _ (0,0) (heap_alloc_new w _)]
 match j,hj with
 | 0,hj=>exact hj
 | 1,hj=>exact hj
 | 2,hj=>exact hj
theorem cell_H' (w:World) (e:He) : ∀ j u,(cH [e])[j]? = some u→(w.alloc (.cells #[.int .i64 (e.1.1:Int),.int .u64 (e.1.2:Int),.string e.2] 177)).cell? (Addr.add ⟨w.heap.size,0,none⟩ j)=some u:=fun j u hj=>by
 rw [Addr.add_mid,Nat.zero_add,cell_of_row (w.alloc (.cells #[.int .i64 (e.1.1:Int),.int .u64 (e.1.2:Int),.string e.2] 177)) _ _ _ _ (0,0) (heap_alloc_new w _)]
 match j,hj with
 | 0,hj=>exact hj
 | 1,hj=>exact hj
 | 2,hj=>exact hj
set_option maxRecDepth 100000 in
set_option maxHeartbeats 2000000 in
theorem rknown_any (w:World) (hT:Tr w) (kd k:Int) (old size:Nat) (sa:Option Addr) (sb so sc:Nat) (S:List Nat) (X:List ByteArray) (hs:RdU w sa sb so X.length S) (hns:X.length≤1048576) (da:Option Addr) (db dO dc:Nat) (D:List ByteArray) (hr:RdS w da db dO D.length D) (xa:Option Addr) (xb xo xc:Nat) (hx:RdS w xa xb xo X.length X) (hsz : ∀ s∈X,s.size≤1048576) (he:Cv.errS size S=0) (hD:D.length=(Cv.rst 0 size S).length) (Kn:List He) (hK:knS (clk k) S X++(Cv.rst 0 size S).zip D=Kn) :
  Calls Tryz.prog 93 #[vP kd k old size (.slice sa X.length sc) (.slice da D.length dc),.slice xa X.length xc] w fun e w' => ∃ ao g cap,e = .returned (.slice ao Kn.length cap)∧RdH w' ao g Kn.length Kn∧Below w.heap.size w w':=by
 obtain ⟨h40,_,_,hc⟩:=Cv.errS_ok he
 have hXS:X.length=S.length:=hs.hl.symm
 have hin:=rst_in he
 obtain ⟨R,hRR⟩ : ∃ R,Cv.rst 0 size S=R:=⟨_,rfl⟩
 have hRl:R.length≤80 * 1048577:=by rw [← hRR]; have:=Cv.rst_len size h40 S 0 hc; omega
 rw [hRR] at hD hK hin
 obtain ⟨c,hcc⟩ : ∃ c,clk k=c:=⟨_,rfl⟩
 rw [hcc] at hK
 have hc32:c≤32:=by rw [← hcc]; exact clk_le k
 obtain ⟨N,hN⟩ : ∃ N,knS c S X=N:=⟨_,rfl⟩
 have hNl:N.length=X.length:=by rw [← hN,knS_len c S X hXS,hXS]
 have hNat : ∀ j,j<X.length→N.take (j+1)=N.take j++[((0,S.getD j 0),dg c (leafT (X.getD j ByteArray.empty)))]:=fun j hj=>by
  rw [List.take_add_one,← hN,knS_at c hXS (by omega)]; rfl
 have hZat : ∀ j,j<R.length→(R.zip D).take (j+1)=(R.zip D).take j++[(R.getD j (0,0),D.getD j ByteArray.empty)]:=fun j hj=>by
  rw [List.take_add_one,zip_at hD hj]; rfl
 rw [hN] at hK
 have hZl:=zip_len hD
 obtain ⟨Z,hZ⟩ : ∃ Z,R.zip D=Z:=⟨_,rfl⟩
 rw [hZ] at hK hZat hZl
 have HRe:Hid (∀ W,Below w.heap.size w W→Calls Tryz.prog 142 #[.int .u64 (size:Int),.slice sa X.length sc] W fun e w' => ∃ ao cap,e = .returned (.tuple #[.slice ao R.length cap,.int .i64 0])∧Cv.OwnB w' W.heap.size (.slice ao R.length cap) (zl R)∧Below W.heap.size W w'):=fun W hb=>by
  refine (Cv.rrest_ok size W _ sb so X.length sc S (rdu_rd (hs.next hb)) hns he).mono fun e w' ⟨v,e1,e2,e3⟩ => ?_
  rw [hRR] at e2
  obtain ⟨ao,g,n',cap,rfl,hr',_⟩:=own_rdB e2 (fun x hx=>by
   obtain ⟨b0,hb0,rfl⟩:=List.mem_map.1 hx
   exact (fit40 (hin b0 hb0) h40).1)
  have hl:=hr'.len
  rw [Cv.zl_len] at hl
  subst hl
  exact ⟨ao,cap,e1,e2,e3⟩
 have HLf:Hid (∀ W,Below w.heap.size w W → ∀ j,j<X.length→Calls Tryz.prog 101 #[.int .i64 k,.string (X.getD j ByteArray.empty)] W fun e w'=>e = .returned (.string (dg c (leafT (X.getD j ByteArray.empty))))∧Below W.heap.size W w'):=fun W hb j hj=>refleaf_any W (hT.next hb) k _ (by have:=hsz _ (getD_mem hj); omega) _ (by rw [hcc])
 have h6:=six_new w (.int .i64 kd) (.int .i64 k) (.int .u64 (old:Int)) (.int .u64 (size:Int)) (.slice sa X.length sc) (.slice da D.length dc)
 have hb:=bal (Below.refl w.heap.size w) (.cells #[.int .i64 kd,.int .i64 k,.int .u64 (old:Int),.int .u64 (size:Int),.slice sa X.length sc,.slice da D.length dc] 38)
 obtain ⟨W0,hW0⟩ : ∃ W0,w.alloc (.cells #[.int .i64 kd,.int .i64 k,.int .u64 (old:Int),.int .u64 (size:Int),.slice sa X.length sc,.slice da D.length dc] 38)=W0:=⟨_,rfl⟩
 rw [hW0] at h6 hb
 have HS:Hid (∀ W,Below W0.heap.size W0 W→Six W w.heap.size (.int .i64 kd) (.int .i64 k) (.int .u64 (old:Int)) (.int .u64 (size:Int)) (.slice sa X.length sc) (.slice da D.length dc)∧RdU W sa sb so X.length S∧RdS W da db dO D.length D∧RdS W xa xb xo X.length X∧Below w.heap.size w W):=fun W hW=>⟨h6.next hW,hs.next (bnext hb hW),hr.next (bnext hb hW) (Nat.le_refl _),hx.next (bnext hb hW) (Nat.le_refl _),bnext hb hW⟩
 have HQ:Hid (N.length=X.length∧(∀ j,j<X.length→N.take (j+1)=N.take j++[((0,S.getD j 0),dg c (leafT (X.getD j ByteArray.empty)))])∧(∀ j,j<R.length→Z.take (j+1)=Z.take j++[(R.getD j (0,0),D.getD j ByteArray.empty)])∧Z.length=R.length∧N++Z=Kn∧R.length≤80 * 1048577∧X.length≤1048576∧D.length=R.length∧(∀ b∈R,(b.2+1) * 2^b.1≤2^40)):=⟨hNl,hNat,hZat,hZl,hK,hRl,hns,hD,fun b hb=>Nat.le_trans (hin b hb) h40⟩
 have hxz:(X.length:Int)≤1048576:=by omega
 have hrz:(R.length:Int)≤83886160:=by omega
 clear hT hs hns hr hx hsz he hD hK h40 hc hXS hin hRl hcc hc32 hN hNl hNat hZat hZl hZ hRR h6 hb
 unfold vP
 go_enter Tryz.func93,Tryz.ntmps93
 go_upto_region 1 with (fail)
 try rw [hW0]
 clear hW0
 go_wp2
 go_loopg [5,6] X.length (fun gh v jj wr => ∃ j:Nat,j≤X.length∧gh=X.length - j∧jj = .int .i64 (j:Int)∧Hid (OwnH wr W0.heap.size v (N.take j))∧Hid (Below W0.heap.size W0 wr))
 case atStart =>
  go_light
  exact ⟨0,Nat.zero_le _,rfl,rfl,World.ownsRow_nil _ _ _ _,Below.refl _ _⟩
 case round =>
  obtain ⟨j,hj,rfl,rfl,HO,HB⟩:=hrel
  by_cases hlt:j<X.length
  ·have hz:(j:Int)<(X.length:Int):=by omega
   have hz0:(0:Int)≤(j:Int):=Int.natCast_nonneg _
   obtain ⟨_,hU,_,hX,hbw⟩:=HS.out wr HB.out
   obtain rfl:=hU.ptr (by omega)
   obtain rfl:=hX.ptr (by omega)
   have HC:Hid (∀ W,Below W0.heap.size W0 W→W.cell? ⟨w.heap.size,1,none⟩=some (.int .i64 k)∧W.cell? ⟨w.heap.size,4,none⟩=some (.slice (some ⟨sb,so,none⟩) X.length sc)∧W.cell? ⟨sb,so+j,none⟩=some (.int .u64 (S.getD j 0:Nat))∧W.cell? ⟨xb,xo+j,none⟩=some (.string (X.getD j ByteArray.empty))):=fun W hW=>by
    obtain ⟨k1,k2,_,k4,_⟩:=HS.out W hW
    exact ⟨k1.cells.2.1,k1.cells.2.2.2.2.1,k2.at hlt,k4.at hlt⟩
   have hLf:=fun W (hW:Below wr.heap.size wr W)=>HLf.out W (bnext hbw hW) j hlt
   have htk:=HQ.out.2.1 j hlt
   obtain ⟨x,hx⟩ : ∃ x,X.getD j ByteArray.empty=x:=⟨_,rfl⟩
   obtain ⟨i,hi⟩ : ∃ i,S.getD j 0=i:=⟨_,rfl⟩
   obtain ⟨d,hd⟩ : ∃ d,dg c (leafT x)=d:=⟨_,rfl⟩
   rw [hx,hi] at HC
   rw [hx,hd] at hLf
   rw [hx,hi,hd] at htk
   have HL:=hide hLf
   obtain ⟨va,vm,vc,rfl⟩:=Cv.own_slice HO.out
   have HG:Hid (N.take (j+1)=N.take j++[((0,i),d)]∧(N.take j).length≤1048576∧j<X.length):=⟨htk,by rw [List.length_take]; have:=HQ.out.2.2.2.2.2.2.1; omega,hlt⟩
   have hdr:=(Below.refl wr.heap.size wr).drew
   obtain ⟨q5,q6,q7,q8⟩:=HC.out _ (bnext HB.out hdr)
   clear hU hX hbw hLf htk hx hi hd hlt hj
   go_upto_region 5 with (fail)
   go_region_held3 (fun Z=>Z.cell? ⟨w.heap.size,1,none⟩=some (.int .i64 k)∧Z.cell? ⟨w.heap.size,4,none⟩=some (.slice (some ⟨sb,so,none⟩) X.length sc)∧Z.cell? ⟨sb,so+j,none⟩=some (.int .u64 (i:Int))∧Z.cell? ⟨xb,xo+j,none⟩=some (.string x)) (first | assumption | (exact HC.out _ hB3) | (exact HC.out _ (bnext HB.out hr2)) | (exact HC.out _ (bal (bnext HB.out hr2) _)) | (exact HC.out _ (bnext HB.out hdr))) (first
    | (go_at_call 101; with_reducible refine (HL.out _ hdr).mono ?_; rintro e w2 ⟨rfl,hb2⟩; have hr2:=bnext hdr hb2)
    | (refine step_app_H _ (by rfl) _ _ (by rfl) W0.heap.size _ (N.take j) (by rfl) (World.ownsRow.alloc (row_nextH HO.out hr2) _) ⟨w2.heap.size,0,none⟩ 1 ((0,i),d) (by rfl) (cell_H' w2 ((0,i),d)) (by have:=HG.out.2.1; omega) (by have:=(bnext HB.out hr2).size; rw [World.size_alloc]; omega) ?_; intro v' w3 o1 o2 _; obtain ⟨ya,ym,yc,rfl⟩:=Cv.own_slice o1; have hB3:=(bal (bnext HB.out hr2) (.cells #[.int .i64 0,.int .u64 (i:Int),.string d] 177)).trans o2))
   all_goals
    have HZ:=hide (And.intro o1 hB3)
    clear o1 o2 hB3 hr2 hb2 HL HO
    go_wp2
    go_roundg (X.length - (j+1))
    case rel =>
     go_light
     exact ⟨j+1,HG.out.2.2,rfl,by go_num,by rw [HG.out.1]; exact HZ.out.1,HZ.out.2⟩
    case measure=>go_light; have:=HG.out.2.2; omega
  ·obtain rfl:j=X.length:=by omega
   have hz : ¬ ((X.length:Int)<(X.length:Int)):=by omega
   obtain ⟨hS6,_,_,_,hbw⟩:=HS.out wr HB.out
   obtain ⟨k0,k1,k2,k3,k4,k5⟩:=hS6.cells
   have hO:=HO.out
   rw [List.take_of_length_le (by rw [HQ.out.1]; exact Nat.le_refl _)] at hO
   have HO1:=hide hO
   have HRw:=HRe.out wr hbw
   clear hO HO hS6 hbw hlt hj HRe HLf
   go_upto_region 7 with (go_at_call 142; with_reducible refine HRw.mono ?_; rintro e w2 ⟨ra,rc,rfl,hRr,hb2⟩)
   have HR2:Hid (Cv.OwnB w2 W0.heap.size (.slice ra R.length rc) (zl R)∧Below W0.heap.size W0 w2∧OwnH w2 W0.heap.size u5 N):=⟨hRr.mono HB.out.size,bnext HB.out hb2,row_nextH HO1.out hb2⟩
   clear hRr hb2 HO1 HRw k0 k1 k2 k3 k4 k5
   go_wp2
   go_loopg [5,9] R.length (fun gh v jj wr => ∃ j:Nat,j≤R.length∧gh=R.length - j∧jj = .int .i64 (j:Int)∧Hid (OwnH wr W0.heap.size v (N++Z.take j))∧Hid (Below W0.heap.size W0 wr)∧Hid (Cv.OwnB wr W0.heap.size (.slice ra R.length rc) (zl R)))
   case atStart =>
    go_light
    exact ⟨0,Nat.zero_le _,rfl,rfl,by rw [List.take_zero,List.append_nil]; exact HR2.out.2.2,HR2.out.2.1,HR2.out.1⟩
   case round =>
    clear HR2
    obtain ⟨j,hj,rfl,rfl,HO,HB,HRo⟩:=hrel
    by_cases hlt:j<R.length
    ·have hz:(j:Int)<(R.length:Int):=by omega
     have hz0:(0:Int)≤(j:Int):=Int.natCast_nonneg _
     obtain ⟨rg,hrd⟩:=rdB_of HRo.out HQ.out.2.2.2.2.2.2.2.2
     obtain rfl:=hrd.addr (by omega)
     have hdl:j<D.length:=by rw [HQ.out.2.2.2.2.2.2.2.1]; exact hlt
     have hdz:(j:Int)<(D.length:Int):=by omega
     obtain ⟨_,_,hDr,_,_⟩:=HS.out wr HB.out
     obtain rfl:=hDr.ptr (by omega)
     have HC:Hid (∀ W,Below wr.heap.size wr W→W.cell? ⟨w.heap.size,5,none⟩=some (.slice (some ⟨db,dO,none⟩) D.length dc)∧W.cell? ⟨db,dO+j,none⟩=some (.string (D.getD j ByteArray.empty))∧W.cell? ⟨rg,j * 2,none⟩=some (.int .i64 ((R.getD j (0,0)).1:Nat))∧W.cell? ⟨rg,j * 2+1,none⟩=some (.int .u64 ((R.getD j (0,0)).2:Nat))):=fun W hW=>by
      obtain ⟨k1,_,k3,_,_⟩:=HS.out W (bnext HB.out hW)
      have hc:=(hrd.below hW).cell j hlt
      rw [Cv.zl_getD,Nat.zero_add] at hc
      exact ⟨k1.cells.2.2.2.2.2,k3.at hdl,hc.1,hc.2⟩
     have htk:=HQ.out.2.2.1 j hlt
     obtain ⟨x,hx⟩ : ∃ x,D.getD j ByteArray.empty=x:=⟨_,rfl⟩
     obtain ⟨⟨mh,mk⟩,hm⟩ : ∃ m,R.getD j (0,0)=m:=⟨_,rfl⟩
     rw [hx,hm] at HC htk
     simp only at HC
     obtain ⟨va,vm,vc,rfl⟩:=Cv.own_slice HO.out
     have HG:Hid (Z.take (j+1)=Z.take j++[((mh,mk),x)]∧(N++Z.take j).length≤100000000∧j<R.length):=⟨htk,by
      rw [List.length_append,List.length_take]
      obtain ⟨a1,_,_,a4,_,a6,a7,_⟩:=HQ.out
      omega,hlt⟩
     have hdr:=(Below.refl wr.heap.size wr).drew
     have hal:=bal (Below.refl wr.heap.size wr) (.cells #[.int .i64 (mh:Int),.int .u64 (mk:Int),.string x] 177)
     obtain ⟨q5,q6,q7,q8⟩:=HC.out _ hdr
     obtain ⟨r5,r6,r7,r8⟩:=HC.out _ (Below.refl _ _)
     have HO1:=hide (row_nextH HO.out hal.drew)
     have HRo1:=hide (row_nextH HRo.out hal.drew)
     have HB1:=hide (bnext HB.out hal.drew)
     have HCe:=hide (cell_H wr ((mh,mk),x))
     have HC3:Hid (∀ w3,Below W0.heap.size W0 w3→(wr.alloc (.cells #[.int .i64 (mh:Int),.int .u64 (mk:Int),.string x] 177)).drew.grownBy w3 (Value.slice va vm vc).ownBlock→(w3.cell? ⟨w.heap.size,5,none⟩=some (.slice (some ⟨db,dO,none⟩) D.length dc)∧w3.cell? ⟨db,dO+j,none⟩=some (.string x)∧w3.cell? ⟨rg,j * 2,none⟩=some (.int .i64 (mh:Int))∧w3.cell? ⟨rg,j * 2+1,none⟩=some (.int .u64 (mk:Int)))∧Cv.OwnB w3 W0.heap.size (.slice (some ⟨rg,0,none⟩) R.length rc) (zl R)):=fun w3 h1 h2=>by
      obtain ⟨k1,_,k3,_,_⟩:=HS.out w3 h1
      have c2:=k3.at hdl
      rw [hx] at c2
      obtain ⟨_,_,c3,c4⟩:=HC.out _ hal.drew
      have hne : ∀ g,(Value.slice (some ⟨rg,0,none⟩) R.length rc).ownBlock=some g→some g≠(Value.slice va vm vc).ownBlock:=fun g hg e=>row_neH HRo1.out HO1.out (by decide) hg e.symm
      have hbk:=h2.block rg (World.ownsRow.lt HRo1.out rg rfl).2 (hne rg rfl)
      exact ⟨⟨k1.cells.2.2.2.2.2,c2,(World.cell?_of_block (a:=⟨rg,j * 2,none⟩) hbk).trans c3,(World.cell?_of_block (a:=⟨rg,j * 2+1,none⟩) hbk).trans c4⟩,keep_row HRo1.out fun g hg _=>h2.block g (World.ownsRow.lt HRo1.out g hg).2 (hne g hg)⟩
     clear hrd hDr htk hx hm hlt hj hdl HO HRo
     go_upto_region 10 with (fail)
     go_region_held3 (fun Z'=>Z'.cell? ⟨w.heap.size,5,none⟩=some (.slice (some ⟨db,dO,none⟩) D.length dc)∧Z'.cell? ⟨db,dO+j,none⟩=some (.string x)∧Z'.cell? ⟨rg,j * 2,none⟩=some (.int .i64 (mh:Int))∧Z'.cell? ⟨rg,j * 2+1,none⟩=some (.int .u64 (mk:Int))) (first | assumption | (exact (HC3.out _ hB3 o3).1) | (exact HC.out _ hdr) | (exact HC.out _ hal.drew) | (exact HC.out _ hal)) (first
      | (refine step_app_H _ (by rfl) _ _ (by rfl) W0.heap.size _ (N++Z.take j) (by rfl) HO1.out ⟨wr.heap.size,0,none⟩ 1 ((mh,mk),x) (by rfl) HCe.out (by have:=HG.out.2.1; omega) HB1.out.size ?_; intro v' w3 o1 o2 o3; obtain ⟨ya,ym,yc,rfl⟩:=Cv.own_slice o1; have hB3:=HB1.out.trans o2))
     all_goals
      have HZ:Hid (OwnH w3 W0.heap.size (.slice ya ym yc) (N++Z.take (j+1))∧Below W0.heap.size W0 w3∧Cv.OwnB w3 W0.heap.size (.slice (some ⟨rg,0,none⟩) R.length rc) (zl R)):=⟨by rw [HG.out.1,← List.append_assoc]; exact o1,hB3,(HC3.out _ hB3 o3).2⟩
      clear o1 o2 o3 hB3 HC3 HO1 HRo1 HB1 HCe HC hal q5 q6 q7 q8 r5 r6 r7 r8
      go_wp2
      go_roundg (R.length - (j+1))
      case rel =>
       go_light
       exact ⟨j+1,HG.out.2.2,rfl,by go_num,HZ.out.1,HZ.out.2.1,HZ.out.2.2⟩
      case measure=>go_light; have:=HG.out.2.2; omega
    ·obtain rfl:j=R.length:=by omega
     have hz : ¬ ((R.length:Int)<(R.length:Int)):=by omega
     have hO:=HO.out
     rw [List.take_of_length_le (by rw [HQ.out.2.2.2.1]; exact Nat.le_refl _),HQ.out.2.2.2.2.1] at hO
     obtain ⟨oa,og,oc,rfl,hRo⟩:=own_rdH hO
     have HF:=hide (And.intro hRo (HS.out wr HB.out).2.2.2.2)
     clear hO hRo hlt hj HO HRo
     go_wp2
     go_ret
     exact ⟨oa,⟨oc,rfl⟩,⟨og,HF.out.1⟩,HF.out.2⟩
end Go.Proofs.YtipcenbndhnnhaaGreatDoor
