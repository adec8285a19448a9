/- Own work. -/
import Derived.Deep.AppendLies
import Derived.Test.YtoblgjledefdbaaGreatDoorQa42
namespace Go.Proofs.YtoblgjledefdbaaGreatDoor
open Go.RowKit
attribute [local go_sem ↓] Go.wp_at_zero Go.wp_at_succ
set_option maxRecDepth 100000 in
set_option maxHeartbeats 2000000 in
theorem rtree_any (w:World) (ht:Tr w) (k:Int) (ao:Option Addr) (b off cap H n:Nat) (hH:H≤40) (hn:2^H=n) (L:List ByteArray) (hr:RdS w ao b off n L) (hsz : ∀ s∈L,s.size≤140737488351232) (r:ByteArray) (hq:Hid (nd (clk k) L H 0=r)) :
  Calls Tryz.prog 112 #[.int .i64 k,.slice ao n cap] w fun e w'=>e = .returned (.string r)∧Below w.heap.size w w':=by
 have hn0:0<n:=by rw [← hn]; exact Nat.two_pow_pos H
 have hmx:n≤1099511627776:=by rw [← hn]; exact Nat.pow_le_pow_right (n:=2) (by decide) hH
 obtain rfl:=hr.ptr hn0
 have HT:Hid (Tr w∧RdS w (some ⟨b,off,none⟩) b off n L∧(∀ s∈L,s.size≤140737488351232)):=⟨ht,hr,hsz⟩
 have hmx':(n:Int)≤1099511627776:=by omega
 have hb:=Below.refl w.heap.size w
 have HN:Hid (2^H=n∧n≤1099511627776):=⟨hn,hmx⟩
 have hc:=clk_le k
 have HC:Hid (clk k≤32):=hc
 clear ht hr hsz hn hH hmx hc
 go_enter Tryz.func112,Tryz.ntmps112
 go_wp2
 go_loopg [5,6] n (fun gg v i0 wr => ∃ i:Nat,i≤n∧gg=n - i∧i0 = .int .i64 (i:Int)∧OwnS wr w.heap.size v (rowN (clk k) L 0 i)∧Below w.heap.size w wr)
 case atStart =>
  go_light
  exact ⟨0,Nat.zero_le _,rfl,rfl,owns_nil _ _,hb⟩
 case round =>
  clear hb
  obtain ⟨i,hi,rfl,rfl,ho,hb⟩:=hrel
  have hi0:(0:Int)≤(i:Int):=Int.natCast_nonneg _
  by_cases hlt:i<n
  ·have hlt':(i:Int)<(n:Int):=by omega
   obtain ⟨t1,t2,t3⟩:=HT.out
   obtain ⟨s,hs⟩ : ∃ s,L.getD i ByteArray.empty=s:=⟨_,rfl⟩
   have ci:=(t2.next hb (Nat.le_refl _)).at hlt
   rw [hs] at ci
   obtain ⟨x,hx⟩ : ∃ x,nd (clk k) L 0 i=x:=⟨_,rfl⟩
   have HLf:=refleaf_any wr (t1.next hb) k s (by rw [← hs]; have:=t3 _ (getD_mem (ss:=L) (k:=i) (by rw [t2.hl]; exact hlt)); omega) x (by rw [← hx,nd,hs])
   have HX:Hid (OwnS wr w.heap.size u5 (rowN (clk k) L 0 i)∧Below w.heap.size w wr∧i+1≤n∧x.size≤9223372036854775807∧rowN (clk k) L 0 i++[x]=rowN (clk k) L 0 (i+1)):=⟨ho,hb,hlt,by rw [← hx,nd_size HC.out]; have:=HC.out; omega,by rw [← hx]; exact rowN_more _ _ _ _⟩
   clear ho hb hi hlt hs hx t1 t2 t3
   go_wp2_with (first
    | (go_at_call 189; with_reducible refine HLf.mono ?_; rintro e w2 ⟨rfl,hb2⟩)
    | (at_builtin; refine wpList_append_S _ rfl _ _ rfl w.heap.size _ (rowN (clk k) L 0 i) rfl (own_al (own_next HX.out.1 hb2 (Nat.le_refl _)) _) (some ⟨w2.heap.size,0,none⟩) w2.heap.size 0 1 [x] rfl (rds_one w2 x HX.out.2.2.2.1) (fun h=>by cases h) ?c1 ?c2 ?_))
   case c1=>have h1:=HX.out.2.2.1; have h2:=HN.out.2; rw [rowN_len]; simp; omega
   case c2=>have:=(bnext HX.out.2.1 hb2).size; simp; omega
   intro v2 w3 h3 hb3
   have HY:Hid (OwnS w3 w.heap.size v2 (rowN (clk k) L 0 (i+1))∧Below w.heap.size w w3):=⟨by rw [← HX.out.2.2.2.2]; exact h3,(bal (bnext HX.out.2.1 hb2) _).trans hb3⟩
   clear h3 hb3 hb2
   go_wp2
   go_roundg (n - (i+1))
   case rel =>
    go_light
    exact ⟨i+1,HX.out.2.2.1,rfl,by go_num,HY.out.1,HY.out.2⟩
   case measure=>go_light; have:=HX.out.2.2.1; omega
  ·obtain rfl:i=n:=by omega
   have hlt' : ¬ ((i:Int)<(i:Int)):=by omega
   have HX:Hid (OwnS wr w.heap.size u5 (rowN (clk k) L 0 i)∧Below w.heap.size w wr):=⟨ho,hb⟩
   clear ho hb hi hlt
   go_wp2
   go_loopg [5] H (fun gg v wx => ∃ (j N:Nat),j≤H∧gg=H - j∧Hid (2^(H - j)=N∧N≤1099511627776)∧OwnS wx w.heap.size v (rowN (clk k) L j N)∧Below w.heap.size w wx)
   case atStart =>
    go_light
    exact ⟨0,i,Nat.zero_le _,rfl,HN.out,HX.out.1,HX.out.2⟩
   case round =>
    clear HX
    obtain ⟨j,N,hj,rfl,HJ,ho,hb⟩:=hrel
    have hNN:=HJ.out
    have hN0:0<N:=by rw [← hNN.1]; exact Nat.two_pow_pos _
    obtain ⟨g,cp,rfl,hg,hcp,hcm⟩:=own_form ho (by rw [rowN_len]; exact hN0)
    rw [rowN_len] at hcp ⊢
    by_cases hjl:j<H
    ·obtain ⟨M,hM⟩ : ∃ M,2^(H - (j+1))=M:=⟨_,rfl⟩
     have hNM:N=2 * M:=by rw [← hNN.1,← hM,show H - j=H - (j+1)+1 by omega,Nat.pow_succ]; omega
     have hM0:0<M:=by rw [← hM]; exact Nat.two_pow_pos _
     have h1N:(1:Int)<(N:Int):=by omega
     have hN':(N:Int)≤1099511627776:=by omega
     have HX:Hid (OwnS wr w.heap.size (.slice (some ⟨g,0,none⟩) (rowN (clk k) L j N).length cp) (rowN (clk k) L j N)∧Below w.heap.size w wr∧N=2 * M∧2^(H - (j+1))=M∧j+1≤H∧N≤1099511627776):=⟨ho,hb,hNM,hM,hjl,hNN.2⟩
     clear ho hb hNN hN0 hg hcp hcm hNM hM hM0 hjl hj HJ
     obtain ⟨W0,hW0⟩ : ∃ W0,W0=wr:=⟨wr,rfl⟩
     subst hW0
     go_wp2
     go_loopg [7,8] M (fun gg v i0 wx => ∃ m:Nat,m≤M∧gg=M - m∧i0 = .int .i64 (2 * (m:Int))∧OwnS wx W0.heap.size v (rowN (clk k) L (j+1) m)∧Below W0.heap.size W0 wx)
     case atStart =>
      go_light
      exact ⟨0,Nat.zero_le _,rfl,rfl,owns_nil _ _,Below.refl _ _⟩
     case round =>
      obtain ⟨m,hm,rfl,rfl,ho,hb⟩:=hrel
      have hm0:(0:Int)≤(m:Int):=Int.natCast_nonneg _
      obtain ⟨y1,y2,y3,y4,y5,y6⟩:=HX.out
      by_cases hlt:m<M
      ·have hlt':2 * (m:Int)+1<(N:Int):=by omega
       have hlt2:2 * (m:Int)<(N:Int):=by omega
       obtain ⟨a,ha⟩ : ∃ a,2 * m=a:=⟨_,rfl⟩
       have ea:2 * (m:Int)=(a:Int):=by omega
       have k1:=(own_cell (own_next y1 hb (Nat.le_refl _)) (j:=a) (by rw [rowN_len]; omega)).1
       have k2:=(own_cell (own_next y1 hb (Nat.le_refl _)) (j:=a+1) (by rw [rowN_len]; omega)).1
       rw [rowN_at _ _ _ _ (by omega)] at k1 k2
       obtain ⟨x,hx⟩ : ∃ x,nd (clk k) L j a=x:=⟨_,rfl⟩
       obtain ⟨y,hy⟩ : ∃ y,nd (clk k) L j (a+1)=y:=⟨_,rfl⟩
       obtain ⟨z,hz⟩ : ∃ z,nd (clk k) L (j+1) m=z:=⟨_,rfl⟩
       rw [hx] at k1
       rw [hy] at k2
       have zx:x.size=clk k:=by rw [← hx]; exact nd_size HC.out _ _ _
       have zy:y.size=clk k:=by rw [← hy]; exact nd_size HC.out _ _ _
       have hcc:=HC.out
       have HNd:Hid (∀ W,Below wr.heap.size wr W→Calls Tryz.prog 190 #[.int .i64 k,.string x,.string y] W fun e w'=>e = .returned (.string z)∧Below W.heap.size W w'):=fun W h=>refnode_any W (HT.out.1.next (bnext (bnext y2 hb) h)) k x y (by omega) (by omega) z (by rw [← hz,nd,ha,hx,hy])
       have HK:Hid (∀ W,Below wr.heap.size wr W→W.cell? ⟨g,a,none⟩=some (.string x)∧W.cell? ⟨g,a+1,none⟩=some (.string y)):=fun W h=>by
        have l1:=World.block_lt_of_cell? wr _ k1
        exact ⟨(h.cell (p:=⟨g,a,none⟩) l1).trans k1,(h.cell (p:=⟨g,a+1,none⟩) l1).trans k2⟩
       have HK0:Hid (∀ W,Below W0.heap.size W0 W→W.cell? ⟨g,a,none⟩=some (.string x)∧W.cell? ⟨g,a+1,none⟩=some (.string y)):=fun W h=>by
        have r1:=(own_cell (own_next y1 h (Nat.le_refl _)) (j:=a) (by rw [rowN_len]; omega)).1
        have r2:=(own_cell (own_next y1 h (Nat.le_refl _)) (j:=a+1) (by rw [rowN_len]; omega)).1
        rw [rowN_at _ _ _ _ (by omega)] at r1 r2
        rw [hx] at r1
        rw [hy] at r2
        exact ⟨r1,r2⟩
       have HY:Hid (OwnS wr W0.heap.size u7 (rowN (clk k) L (j+1) m)∧Below W0.heap.size W0 wr∧rowN (clk k) L (j+1) m++[z]=rowN (clk k) L (j+1) (m+1)∧z.size≤9223372036854775807∧m+1≤M∧N=2 * M∧N≤1099511627776):=⟨ho,hb,by rw [← hz]; exact rowN_more _ _ _ _,by rw [← hz,nd_size HC.out]; omega,hlt,y3,y6⟩
       have e1:IntKind.i64.wrap ((a:Int)+1)=(a:Int)+1:=by rw [IntKind.wrap_i64]; omega
       have h0a:(0:Int)≤(a:Int):=by omega
       have h0b:(0:Int)≤(a:Int)+1:=by omega
       have hd:Below wr.heap.size wr wr.drew:=(Below.refl _ _).drew
       rw [ea] at hlt' hlt2 ⊢
       clear y1 y2 y3 y4 y5 y6 ho hb hm hlt hx hy hz zx zy hcc ha
       go_upto_region 11 with (fail)
       obtain ⟨i0,hi0,hz0,hz1,hz2⟩:=info_parts Tryz.infoS
       have HO:Hid (∀ W,Below wr.heap.size wr W→(W.alloc (.cells #[.string z] 9)).ownsRow W0.heap.size 9 1 u7 m ((rowN (clk k) L (j+1) m).map Value.string)):=fun W h=>by
        have:=own_al (own_next HY.out.1 h (Nat.le_refl _)) (.cells #[.string z] 9)
        rw [OwnS,rowN_len] at this; exact this
       have HM1:Hid (m+1≤maxLen∧(m+1) * 16≤140737488355328):=by have:=HY.out; refine ⟨?_,?_⟩; unfold maxLen; omega; omega
       have HS0:Hid (∀ W,Below wr.heap.size wr W→W0.heap.size≤(W.alloc (.cells #[.string z] 9)).heap.size):=fun W h=>by have:=(bnext HY.out.2.1 h).size; simp; omega
       have kk:=HK.out wr.drew hd
       have HG:Hid (∀ w2 w3,Below wr.drew.heap.size wr.drew w2→(w2.alloc (.cells #[.string z] 9)).grownBy w3 u7.ownBlock→Below W0.heap.size W0 w3):=fun w2 w3 h1 h2=>(bal (bnext (bnext HY.out.2.1 hd) h1) _).grown h2 (by have:=(bnext (bnext HY.out.2.1 hd) h1).size; simp; omega) (fun q hq=>(HY.out.1.lt q hq).1)
       have HK3:Hid (∀ w2 w3,Below wr.drew.heap.size wr.drew w2→(w2.alloc (.cells #[.string z] 9)).grownBy w3 u7.ownBlock→w3.cell? ⟨g,a,none⟩=some (.string x)∧w3.cell? ⟨g,a+1,none⟩=some (.string y)):=fun w2 w3 h1 h2=>HK0.out w3 (HG.out w2 w3 h1 h2)
       go_region_held3 (fun w'=>w'.cell? ⟨g,a,none⟩=some (.string x)∧w'.cell? ⟨g,a+1,none⟩=some (.string y)) (first | assumption | (exact HK3.out _ _ hb2 hgrow) | (exact HK.out _ (bnext hd hb2)) | (exact HK.out _ (bal (bnext hd hb2) _))) (first
        | (go_at_call 190; with_reducible refine (HNd.out _ hd).mono ?_; rintro e w2 ⟨rfl,hb2⟩)
        | (refine step_append_lies _ (by rfl) _ _ _ (by rfl) W0.heap.size 9 i0 _ 1 16 Tryz.underlying22 hi0 hz0 hz1 hz2 rfl (by omega) u7 m ((rowN (clk k) L (j+1) m).map Value.string) (by rfl) (HO.out _ (bnext hd hb2)) ⟨w2.heap.size,0,none⟩ 1 1 [.string z] (by rfl) (by rfl) (World.news_of_block (cs:=#[.string z]) (t:=9) (fr:=(0,0)) (heap_alloc_new w2 _)) (by simp [Value.oneCell']) (by omega) HM1.out.1 HM1.out.2 (HS0.out _ (bnext hd hb2)) (w2.heap.size+1) (by simp) ?_; intro gg cap_1 w3 hown3 hgrow hat hlt3))
       have HZ:Hid (OwnS w3 W0.heap.size (.slice (some ⟨gg,0,none⟩) (m+1) cap_1) (rowN (clk k) L (j+1) (m+1))∧Below W0.heap.size W0 w3):=⟨by
        rw [OwnS,rowN_len,← HY.out.2.2.1,List.map_append]; exact hown3,HG.out _ _ hb2 hgrow⟩
       clear hown3 hgrow hat hlt3 HG HK3 HK HK0 HNd HO HS0 kk
       have HEa:=hide ea
       clear ea
       go_wp2
       go_roundg (M - (m+1))
       case rel =>
        go_light
        exact ⟨m+1,HY.out.2.2.2.2.1,rfl,by have:=HEa.out; rw [show 2 * ((m+1:Nat):Int)=(a:Int)+2 by omega],HZ.out.1,HZ.out.2⟩
       case measure=>go_light; have:=HY.out.2.2.2.2.1; omega
      ·obtain rfl:m=M:=by omega
       obtain ⟨a,ha⟩ : ∃ a,2 * m=a:=⟨_,rfl⟩
       have ea:2 * (m:Int)=(a:Int):=by omega
       have hlt' : ¬ ((a:Int)+1<(N:Int)):=by omega
       have e1:IntKind.i64.wrap ((a:Int)+1)=(a:Int)+1:=by rw [IntKind.wrap_i64]; omega
       rw [ea]
       have HY:Hid (OwnS wr w.heap.size u7 (rowN (clk k) L (j+1) m)∧Below w.heap.size w wr∧2^(H - (j+1))=m∧j+1≤H∧m≤1099511627776):=⟨World.ownsRow.mono ho y2.size,bnext y2 hb,y4,y5,by omega⟩
       clear y1 y2 y3 y4 y5 y6 ho hb hm hlt HX ha ea
       go_wp2
       go_roundg (H - (j+1))
       case rel =>
        go_light
        obtain ⟨k1,k2,k3,k4,k5⟩:=HY.out
        exact ⟨j+1,m,k4,rfl,⟨k3,k5⟩,k1,k2⟩
       case measure=>go_light; have:=HY.out.2.2.2.1; omega
    ·obtain rfl:j=H:=by omega
     obtain ⟨n1,n2⟩:=hNN
     rw [Nat.sub_self,Nat.pow_zero] at n1
     subst n1
     have k1:=(own_cell ho (j:=0) (by rw [rowN_len]; decide)).1
     rw [rowN_at _ _ _ _ (by decide),hq.out] at k1
     have h1 : ¬ ((1:Int)<1):=by decide
     have HB:Hid (Below w.heap.size w wr):=hb
     clear ho hb hcp hcm hg HJ n2 hN0 hj hjl
     go_wp2
     go_ret
     exact ⟨rfl,HB.out⟩
theorem RdS.cut {w:World} {b off len:Nat} {ss:List ByteArray} (h:RdS w (some ⟨b,off,none⟩) b off len ss) (i n:Nat) (hn:i+n≤len):RdS w (some ⟨b,off+i,none⟩) b (off+i) n ((ss.drop i).take n):=by
 refine ⟨by rw [List.length_take,List.length_drop,h.hl]; omega,fun _=>rfl,fun j v hv => ?_,fun s hs=>h.sz s (List.mem_of_mem_drop (List.mem_of_mem_take hs))⟩
 rw [List.map_take,List.getElem?_take] at hv
 split at hv
 ·rw [List.map_drop,List.getElem?_drop] at hv
  rw [Nat.add_assoc]
  exact h.rng (i+j) v hv
 ·cases hv
def gen {α:Type} (f:Nat→α) (n:Nat):Nat→List α
 | 0=>[]
 | h+1=>(if n / 2^h % 2=1 then [f h] else [])++gen f n h
theorem gen_pks (c:Nat) (L:List ByteArray) : ∀ h,gen (fun s=>nd c L s (L.length / 2^s - 1)) L.length h=pks c L h
 | 0=>rfl
 | h+1=>by rw [gen,pks,gen_pks c L h]
theorem gen_map {α β:Type} (g:α→β) (f:Nat→α) (n:Nat) : ∀ h,(gen f n h).map g=gen (fun s=>g (f s)) n h
 | 0=>rfl
 | h+1=>by
  rw [gen,gen,List.map_append,gen_map g f n h]
  by_cases e:n / 2^h % 2=1
  ·rw [if_pos e,if_pos e]; rfl
  ·rw [if_neg e,if_neg e]; rfl
theorem gen_none {α:Type} {f:Nat→α} {n h:Nat} (e:n / 2^h % 2≠1):gen f n (h+1)=gen f n h:=by rw [gen,if_neg e]; rfl
theorem gen_one {α:Type} {f:Nat→α} {n h:Nat} (e:n / 2^h % 2=1):gen f n (h+1)=f h::gen f n h:=by rw [gen,if_pos e]; rfl
theorem gen_skip {α:Type} {f:Nat→α} {n s:Nat} : ∀ d,n % 2^(s+d)<2^s→gen f n (s+d)=gen f n s
 | 0,_=>rfl
 | d+1,h=>by
  have hs:2^s≤2^(s+d):=Nat.pow_le_pow_right (by decide) (by omega)
  have h2:n % 2^(s+(d+1)) / 2^(s+d) % 2≠1:=below_two (by omega)
  rw [bit_mod (by omega)] at h2
  rw [show s+(d+1)=s+d+1 by omega,gen_none h2]
  refine gen_skip d ?_
  have:n % 2^(s+d)=n % 2^(s+(d+1)) % 2^(s+d):=by
   rw [show s+(d+1)=(s+d)+1 by omega,Nat.pow_succ,Nat.mod_mul_right_mod]
  rw [this,Nat.mod_eq_of_lt (Nat.lt_of_lt_of_le h hs)]
  exact h
theorem gen_next {α:Type} {f:Nat→α} {n g s:Nat} (h1:2^s≤n % 2^g) (h2:n % 2^g<2^(s+1)):gen f n g=f s::gen f n s:=by
 obtain ⟨hsg,e2,e1,_⟩:=top_bit h1 h2
 obtain ⟨d,rfl⟩ : ∃ d,g=s+1+d:=⟨g - s - 1,by omega⟩
 rw [gen_skip d (by rw [e1,← e1]; exact h2),gen_one e2]
theorem gen_zero {α:Type} {f:Nat→α} {n g:Nat} (h:n % 2^g=0):gen f n g=[]:=by
 have:=gen_skip (f:=f) (n:=n) (s:=0) g (by rw [Nat.zero_add,h]; decide)
 rw [Nat.zero_add] at this
 rw [this,gen]
theorem gen_len {α:Type} (f:Nat→α) (n:Nat) : ∀ h,(gen f n h).length≤h
 | 0=>Nat.le_refl _
 | h+1=>by
  have:=gen_len f n h
  by_cases e:n / 2^h % 2=1
  ·rw [gen_one e,List.length_cons]; omega
  ·rw [gen_none e]; omega
theorem gen_mem {n:Nat} : ∀ h s,s∈gen id n h→s<h∧n / 2^s % 2=1
 | 0,s,hs=>by cases hs
 | h+1,s,hs=>by
  by_cases e:n / 2^h % 2=1
  ·rw [gen_one e] at hs
   rcases List.mem_cons.1 hs with rfl | hs
   ·exact ⟨Nat.lt_succ_self _,e⟩
   ·have:=gen_mem h s hs; exact ⟨by omega,this.2⟩
  ·rw [gen_none e] at hs
   have:=gen_mem h s hs; exact ⟨by omega,this.2⟩
def cP:List (Nat×Nat)→List Value
 | []=>[]
 | p::r => .int .i64 (p.1:Int) :: .int .i64 (p.2:Int)::cP r
theorem cP_app (l m:List (Nat×Nat)):cP (l++m)=cP l++cP m:=by
 induction l with
 | nil=>rfl
 | cons b r ih=>simp [cP,ih]
theorem cP_get (l:List (Nat×Nat)) (j:Nat) (hj:j<l.length):(cP l)[j * 2]? = some (.int .i64 ((l.getD j (0,0)).1:Int))∧(cP l)[j * 2+1]? = some (.int .i64 ((l.getD j (0,0)).2:Int)):=by
 induction l generalizing j with
 | nil=>simp at hj
 | cons b r ih =>
  cases j with
  | zero=>exact ⟨rfl,rfl⟩
  | succ j =>
   have:=ih j (by simpa using hj)
   rw [show (j+1) * 2=j * 2+1+1 by omega]
   simpa [cP] using this
theorem Tryz.infoP:(Tryz.prog.info? 196).map (fun i=>(i.zero,i.size,i.bytes))=some (some (.agg #[.int .i64 0,.int .i64 0]),2,16):=by kernel_rfl
def OwnP (w:World) (B:Nat) (v:Value) (l:List (Nat×Nat)):Prop:=w.ownsRow B 196 2 v l.length (cP l)
theorem ownP_next {w W:World} {B:Nat} {v:Value} {l:List (Nat×Nat)} (h:OwnP w B v l) (hb:Below w.heap.size w W):OwnP W B v l:=by
 obtain ⟨h1,h2⟩:=h
 refine ⟨h1,?_⟩
 rcases h2 with h2 | ⟨g,cap,cur,rfl,hg,hh,r⟩
 ·exact .inl h2
 ·exact .inr ⟨g,cap,cur,rfl,hg,by rw [hb.block g (Array.getElem?_eq_some_iff.1 hh).1]; exact hh,r⟩
theorem ownP_nil (w:World) (B:Nat):OwnP w B (.slice none 0 0) []:=⟨rfl,.inl ⟨rfl,rfl⟩⟩
theorem ownP_cell {w:World} {B g n cap:Nat} {l:List (Nat×Nat)} (h:OwnP w B (.slice (some ⟨g,0,none⟩) n cap) l) {j:Nat} (hj:j<l.length):w.cell? ⟨g,j * 2,none⟩=some (.int .i64 ((l.getD j (0,0)).1:Int))∧w.cell? ⟨g,j * 2+1,none⟩=some (.int .i64 ((l.getD j (0,0)).2:Int)):=by
 obtain ⟨k1,k2⟩:=cP_get l j hj
 have h1:=World.ownsRow.cells h (g:=g) rfl _ _ k1
 have h2:=World.ownsRow.cells h (g:=g) rfl _ _ k2
 rw [Addr.add_mid,Nat.zero_add] at h1 h2
 exact ⟨h1,h2⟩
theorem wpList_append_P (w:World) {ops:Array Oper} {rest:List Oper} {o:Oper} {a:Act} {Q:Exit→Act→World→Prop}
  (hg:o.guard=none) (s x:Operand) (hop:o.op=Op.call { callee:=Callee.builtin Builtin.append,args:=#[s,x],argTypes:=#[194,194] })
  (B:Nat) (v:Value) (L:List (Nat×Nat)) (w0:World) (p q:Nat) (hw:w=w0.alloc (.cells #[.int .i64 (p:Int),.int .i64 (q:Int)] 196)) (hs:a.eval s=v) (hown:OwnP w B v L) (hx:a.eval x = .slice (some ⟨w0.heap.size,0,none⟩) 1 1)
  (hlen:L.length+1≤1048576) (hB:B≤w.heap.size)
  (hK : ∀ v' w',OwnP w' B v' (L++[(p,q)])→Below B w w'→wpList Tryz.prog ops Q rest (a.put o.dst v') w'):wpList Tryz.prog ops Q (o::rest) a w:=by
 obtain ⟨i0,hi,hz0,hz1,hz2⟩:=info_parts Tryz.infoP
 have hlt : ∀ k,v.ownBlock=some k→B≤k:=by
  obtain ⟨_,h2⟩:=hown
  rcases h2 with ⟨rfl,_⟩ | ⟨g,cp,cur,rfl,hg,_⟩
  ·intro k hk; cases hk
  ·intro k hk; cases hk; exact hg
 have hnews : ∀ j u,([.int .i64 (p:Int),.int .i64 (q:Int)]:List Value)[j]? = some u→w.cell? ((⟨w0.heap.size,0,none⟩:Addr).add j)=some u:=by
  subst hw
  exact World.news_of_block (cs:=#[.int .i64 (p:Int),.int .i64 (q:Int)]) (t:=196) (fr:=(0,0)) (heap_alloc_new w0 _)
 refine wpList_append_own w hg s x _ hop B 196 i0 (.agg #[.int .i64 0,.int .i64 0]) 2 16 Tryz.underlying194 hi hz0 hz1 hz2 rfl (by decide) _ _ _ hs hown ⟨w0.heap.size,0,none⟩ 1 1 [.int .i64 (p:Int),.int .i64 (q:Int)] hx rfl hnews (by intro u hu; simp at hu; rcases hu with rfl | rfl <;> rfl) (by unfold maxLen; omega) (by omega) hB ?_
 intro v' w' h1 h2 _
 refine hK v' w' ?_ ((Below.refl _ _).grown h2 hB hlt)
 rw [OwnP,List.length_append,cP_app]; exact h1
def mtP (n s:Nat):Nat×Nat:=((n / 2^s - 1) * 2^s,2^s)
set_option maxRecDepth 100000 in
set_option maxHeartbeats 1000000 in
theorem mountains_any (w:World) (n:Nat) (hn:n≤1099511627776) (P:List (Nat×Nat)) (hP:Hid (gen (mtP n) n 41=P)) :
  Calls Tryz.prog 111 #[.int .i64 (n:Int)] w fun e w' => ∃ v,e = .returned v∧OwnP w' w.heap.size v P∧Below w.heap.size w w':=by
 have hb:=Below.refl w.heap.size w
 have HS:Hid ([]++gen (mtP n) n 41=P):=by rw [List.nil_append]; exact hP
 have HPl:Hid (P.length≤41):=by show _≤_; rw [← hP.out]; exact gen_len _ _ _
 have HN:Hid (n≤1099511627776):=hn
 have hn':(n:Int)≤1099511627776:=by omega
 clear hn hP
 go_enter Tryz.func111,Tryz.ntmps111
 go_wp2
 go_loopg [3,4] n (fun gg v a wr => ∃ (g t:Nat) (A:List (Nat×Nat)),t≤n∧gg=n - t∧a = .int .i64 (t:Int)∧Hid (t+n % 2^g=n∧A++gen (mtP n) n g=P)∧OwnP wr w.heap.size v A∧Below w.heap.size w wr)
 case atStart =>
  go_light
  exact ⟨41,0,[],Nat.zero_le _,rfl,rfl,⟨by have:=HN.out; omega,HS.out⟩,ownP_nil _ _,hb⟩
 case round =>
  clear hb HS
  obtain ⟨g,t,A,htn,rfl,rfl,HE,ho,hb⟩:=hrel
  have ht0:(0:Int)≤(t:Int):=Int.natCast_nonneg _
  by_cases hlt:t<n
  ·have hlt':(t:Int)<(n:Int):=by omega
   have HX:Hid (OwnP wr w.heap.size u3 A∧Below w.heap.size w wr∧t<n):=⟨ho,hb,hlt⟩
   obtain ⟨m,hm⟩ : ∃ m,n - t=m:=⟨_,rfl⟩
   have em:IntKind.i64.wrap ((n:Int) - (t:Int))=(m:Int):=by rw [IntKind.wrap_i64]; omega
   have HMn:Hid (t+m=n):=by show _=_; omega
   clear ho hb htn hlt hm
   go_wp2
   go_loopg [5] 64 (fun gg zv wx => ∃ (h z:Nat),h≤64∧gg=64 - h∧zv = .int .i64 (z:Int)∧Hid (2^h=z∧z≤m)∧wr=wx)
   case atStart =>
    go_light
    exact ⟨0,1,by omega,rfl,rfl,⟨rfl,by have:=HX.out.2.2; have:=HMn.out; omega⟩,rfl⟩
   case round =>
    obtain ⟨h,z,hh64,rfl,rfl,HH,rfl⟩:=hrel
    have hz:=HH.out
    have hmm:=HMn.out
    have hnn:=HN.out
    have hh40:h≤40:=by
     apply Nat.le_of_not_lt
     intro h9
     have:=Nat.pow_le_pow_right (n:=2) (by decide) (show 41≤h from h9)
     omega
    obtain ⟨q,hq⟩ : ∃ q,2 * z=q:=⟨_,rfl⟩
    have e1:IntKind.i64.wrap (2 * (z:Int))=(q:Int):=by rw [IntKind.wrap_i64]; omega
    by_cases hgo:q≤m
    ·have hgo':(q:Int)≤(m:Int):=by omega
     have HY:Hid (2^(h+1)=q∧q≤m∧h≤40):=⟨by rw [Nat.pow_succ,hz.1]; omega,hgo,hh40⟩
     clear HH hq hgo hh64 hh40 hz hmm hnn
     go_wp2
     go_roundg (64 - (h+1))
     case rel =>
      go_light
      exact ⟨h+1,q,by have:=HY.out.2.2; omega,rfl,rfl,⟨HY.out.1,HY.out.2.1⟩,rfl⟩
     case measure=>go_light; have:=HY.out.2.2; omega
    ·have hgo' : ¬ ((q:Int)≤(m:Int)):=by omega
     have hE:=HE.out
     have hg1:2^h≤n % 2^g:=by omega
     have hg2:n % 2^g<2^(h+1):=by rw [Nat.pow_succ]; omega
     obtain ⟨hsg,hbit,hm1,hm2⟩:=top_bit hg1 hg2
     obtain ⟨hat,hge⟩:=mount_at hbit
     have hat2:(n / 2^h - 1) * 2^h=t:=by omega
     have e7:IntKind.i64.wrap ((t:Int)+(z:Int))=(t:Int)+(z:Int):=by rw [IntKind.wrap_i64]; omega
     have HNx:Hid (t+z≤n∧t+z+n % 2^h=n∧A++[(t,z)]++gen (mtP n) n h=P∧1≤z):=by
      refine ⟨by omega,by omega,?_,?_⟩
      ·have h3:=gen_next (f:=mtP n) hg1 hg2
       rw [mtP,hat2,hz.1] at h3
       rw [← hE.2,h3]; simp
      ·rw [← hz.1]; exact Nat.two_pow_pos h
     clear hgo hg1 hg2 hsg hbit hm1 hm2 hat hge hat2 hE HE HH hz hmm hnn hh40 hh64 hq
     go_wp2_with (at_builtin; refine wpList_append_P _ rfl _ _ rfl w.heap.size _ A wr t z rfl rfl (ownP_next HX.out.1 (bal (Below.refl _ _) _)) rfl ?c1 ?c2 ?_)
     case c1 =>
      have h1:=congrArg List.length HNx.out.2.2.1
      have h2:=HPl.out
      simp at h1
      omega
     case c2=>have:=HX.out.2.1.size; simp; omega
     intro v2 w6 h6 hb6
     have HY:Hid (OwnP w6 w.heap.size v2 (A++[(t,z)])∧Below w.heap.size w w6):=⟨h6,(bal HX.out.2.1 _).trans hb6⟩
     clear h6 hb6
     go_wp2
     go_roundg (n - (t+z))
     case rel =>
      go_light
      obtain ⟨k1,k2,k3,k4⟩:=HNx.out
      exact ⟨h,t+z,A++[(t,z)],k1,rfl,by go_num,⟨k2,k3⟩,HY.out.1,HY.out.2⟩
     case measure=>go_light; obtain ⟨k1,k2,k3,k4⟩:=HNx.out; have:=HX.out.2.2; omega
  ·obtain rfl:t=n:=by omega
   have hlt' : ¬ ((t:Int)<(t:Int)):=by omega
   have HA:Hid (A=P):=by
    obtain ⟨k1,k2⟩:=HE.out
    rw [gen_zero (by omega),List.append_nil] at k2
    exact k2
   clear HE
   go_wp2
   go_ret
   exact ⟨_,rfl,by rw [← HA.out]; exact ho,hb⟩
end Go.Proofs.YtoblgjledefdbaaGreatDoor
