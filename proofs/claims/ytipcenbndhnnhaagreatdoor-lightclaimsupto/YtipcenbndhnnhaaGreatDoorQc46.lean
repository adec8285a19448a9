/- Own work. -/
import Derived.Test.YtipcenbndhnnhaaGreatDoorQc45
namespace Go.Proofs.YtipcenbndhnnhaaGreatDoor
open Go.RowKit
open Cv (zl)
attribute [local go_sem ↓] Go.wp_at_zero Go.wp_at_succ
def pk0 (a b:Nat) (y:ByteArray):List ByteArray:=List.replicate a (⟨#[]⟩:ByteArray)++y::List.replicate b (⟨#[]⟩:ByteArray)
theorem pk0_len (a b:Nat) (y:ByteArray):(pk0 a b y).length=a+1+b:=by rw [pk0,List.length_append,List.length_cons,List.length_replicate,List.length_replicate]; omega
theorem pk0_at (a b:Nat) (y:ByteArray) (j:Nat) (hj:j<a+1+b):(pk0 a b y).getD j ByteArray.empty=if j=a then y else (⟨#[]⟩:ByteArray):=by
 rw [pk0,List.getD_eq_getElem?_getD]
 by_cases h1:j<a
 ·rw [List.getElem?_append_left (by rw [List.length_replicate]; exact h1),List.getElem?_replicate,if_pos h1,if_neg (by omega)]; rfl
 ·rw [List.getElem?_append_right (by rw [List.length_replicate]; omega),List.length_replicate]
  by_cases h2:j=a
  ·rw [if_pos h2,h2,Nat.sub_self]; rfl
  ·obtain ⟨u,rfl⟩ : ∃ u,j=a+(u+1):=⟨j - a - 1,by omega⟩
   rw [if_neg h2,show a+(u+1) - a=u+1 by omega,List.getElem?_cons_succ,List.getElem?_replicate,if_pos (by omega)]; rfl
theorem own_putS {w:World} {B g m cap i:Nat} {l:List ByteArray} (h:OwnS w B (.slice (some ⟨g,0,none⟩) m cap) l) (x:ByteArray):OwnS (w.setCell ⟨g,i,none⟩ (.string x)) B (.slice (some ⟨g,0,none⟩) m cap) (l.set i x):=by
 obtain ⟨h1,h2⟩:=h
 refine ⟨by simp,.inr ?_⟩
 rcases h2 with ⟨h2,h3⟩ | ⟨g',cap',cur,hv,hg,hh,h3,h4,h5,h6⟩
 ·cases h2
 ·obtain ⟨e1,e2,e3⟩:=Value.slice.inj hv
  cases e1
  have s1:(w.setCell ⟨g,i,none⟩ (.string x)).heap[g]? = _:=heap_setCell_same w g i cur _ _ hh
  refine ⟨g,cap,_,by rw [e2]; simp,hg,s1,by simpa [e3] using h3,by omega,by simpa [e3] using h5,?_⟩
  rw [List.length_set,Array.toList_setIfInBounds,List.take_set,h6,List.map_set]
theorem mx_set {α:Type} {e:α} (P Q:List α) (hl:P.length=Q.length) (j:Nat) (hj:j<P.length):(P.take j++Q.drop j).set j (P.getD j e)=P.take (j+1)++Q.drop (j+1):=by
 apply List.ext_getElem?
 intro t
 rw [List.getElem?_set]
 by_cases h:j=t
 ·subst h
  have h1:j<(P.take j++Q.drop j).length:=by rw [List.length_append,List.length_take,List.length_drop]; omega
  rw [if_pos rfl,if_pos h1,List.getElem?_append_left (by rw [List.length_take]; omega),List.getElem?_take,if_pos (by omega),List.getD_eq_getElem?_getD,List.getElem?_eq_getElem hj]; rfl
 ·rw [if_neg h]
  by_cases h2:t<j
  ·rw [List.getElem?_append_left (by rw [List.length_take]; omega),List.getElem?_append_left (by rw [List.length_take]; omega),List.getElem?_take,List.getElem?_take,if_pos h2,if_pos (by omega)]
  ·rw [List.getElem?_append_right (by rw [List.length_take]; omega),List.getElem?_append_right (by rw [List.length_take]; omega),List.length_take,List.length_take,List.getElem?_drop,List.getElem?_drop,Nat.min_eq_left (by omega),Nat.min_eq_left (by omega)]
   congr 1; omega
theorem mx_keep {α:Type} {e:α} (P Q:List α) (hl:P.length=Q.length) (j:Nat) (hj:j<P.length) (h:P.getD j e=Q.getD j e):P.take (j+1)++Q.drop (j+1)=P.take j++Q.drop j:=by
 rw [← mx_set (e:=e) P Q hl j hj,h]
 apply List.ext_getElem?
 intro t
 rw [List.getElem?_set]
 by_cases h2:j=t
 ·subst h2
  have h1:j<(P.take j++Q.drop j).length:=by rw [List.length_append,List.length_take,List.length_drop]; omega
  rw [if_pos rfl,if_pos h1,List.getElem?_append_right (by rw [List.length_take]; omega),List.length_take,List.getElem?_drop,Nat.min_eq_left (by omega),Nat.sub_self,Nat.add_zero,List.getD_eq_getElem?_getD,List.getElem?_eq_getElem (by omega)]; rfl
 ·rw [if_neg h2]
set_option maxRecDepth 100000 in
set_option maxHeartbeats 4000000 in
theorem refroot_ok (w:World) (hT:Tr w) (k:Int) (size:Nat) (b o sc:Nat) (i H:Nat) (A B:List (Nat×Nat)) (ha:RA w k size b o i H A B) (da:Option Addr) (db dO dc:Nat) (D:List ByteArray) (hr:RdS w da db dO D.length D) (hf:fil k (H+A.length+B.length) D) (x:ByteArray) (hx:x.size≤1048576) (r:ByteArray) (hq:rtP (clk k) size i A.length H D x=r) :
  Calls Tryz.prog 45 #[.agg #[.int .i64 1,.int .i64 k,.int .u64 0,.int .u64 (size:Int),.slice (some ⟨b,o,none⟩) 1 sc,.slice da D.length dc],.string x] w fun e w'=>e = .returned (.tuple #[.agg #[.int .u64 (size:Int),.string r],.int .i64 0])∧Below w.heap.size w w':=by
 have hi0:=ha.il
 have hn0:=ha.n
 have hk1:=ha.k1
 have hwy:=ha.wy
 have hln:=hwy.len
 have hH:=hwy.hH
 obtain ⟨M,hM⟩ : ∃ M,Cv.dnL 41 0 size=M:=⟨_,rfl⟩
 have hin:=dn_in size hn0
 rw [hM] at hin
 have hMl:M.length=A.length+1+B.length:=by rw [← hM,hwy.all,List.length_append,List.length_cons]; omega
 have HM:Hid (∀ W,Calls Tryz.prog 86 #[.int .u64 (size:Int)] W fun e w' => ∃ g cap,e = .returned (.slice (some ⟨g,0,none⟩) M.length cap)∧RdB w' (some ⟨g,0,none⟩) g 0 M.length (zl M)∧Below W.heap.size W w'):=fun W=>rmount_rd size W hn0 M hM (by omega)
 have hDl:=hf.1
 have HWe:Hid (∀ W,Below w.heap.size w W→Calls Tryz.prog 85 #[.agg #[.int .i64 1,.int .i64 k,.int .u64 0,.int .u64 (size:Int),.slice (some ⟨b,o,none⟩) 1 sc,.slice da D.length dc]] W fun e w'=>e = .returned (.bool true)∧Below W.heap.size W w'):=fun W hb=>well_core W k size b o sc i H A B (ha.next hb) da db dO dc D (hr.next hb (Nat.le_refl _)) (by omega) true (decide_eq_true hf)
 have hck:(clk k:Int)=k:=clk_id hk1
 have hsD : ∀ s∈D,s.size=clk k:=fun s hs=>by have:=hf.2 s hs; omega
 obtain ⟨c,hc⟩ : ∃ c,clk k=c:=⟨_,rfl⟩
 have hc32:c≤32:=by rw [← hc]; exact clk_le k
 rw [hc] at hsD hq
 have HHs:Hid (∀ W t r,Tr W→t.size≤2000000→dg c t=r→Calls Tryz.prog 87 #[.int .i64 k,.string t] W fun e w'=>e = .returned (.string r)∧Below W.heap.size W w'):=fun W t r hW ht hr=>refH_any W hW k hk1.1 hk1.2 t (by omega) r (by rw [hc]; exact hr)
 obtain ⟨lf,hlf⟩ : ∃ lf,leafT x=lf:=⟨_,rfl⟩
 obtain ⟨d0,hd0⟩ : ∃ d0,dg c lf=d0:=⟨_,rfl⟩
 have zlf:lf.size≤2000000:=by rw [← hlf,leafT_size]; omega
 have hsx:=s0 x
 rw [hlf] at hsx
 obtain ⟨W0,hW0⟩ : ∃ W0,(w.alloc (.cells #[.int .i64 1,.int .i64 k,.int .u64 ((0:Nat):Int),.int .u64 (size:Int),.slice (some ⟨b,o,none⟩) 1 sc,.slice da D.length dc] 38)).alloc (.cells #[.int .u64 0,.string ⟨#[]⟩] 32)=W0:=⟨_,rfl⟩
 obtain ⟨hb,h6,hRt,hz2⟩:=root_start hW0
 rw [show ((0:Nat):Int)=0 from rfl] at hW0 h6
 have HS:Hid (∀ W,Below W0.heap.size W0 W→Six W w.heap.size (.int .i64 1) (.int .i64 k) (.int .u64 0) (.int .u64 (size:Int)) (.slice (some ⟨b,o,none⟩) 1 sc) (.slice da D.length dc)∧W.cell? ⟨b,o,none⟩=some (.int .u64 (i:Int))∧RdS W da db dO D.length D∧Tr W∧Below w.heap.size w W∧Rt W (w.heap.size+1) 0 ⟨#[]⟩):=fun W hbW=>by
  have hw:=bnext hb hbW
  exact ⟨h6.next hbW,(hw.cell (p:=⟨b,o,none⟩) (World.block_lt_of_cell? w _ ha.ci)).trans ha.ci,hr.next hw (Nat.le_refl _),hT.next hw,hw,hRt.below hbW (by omega)⟩
 have HX:Hid (Wy size i A H B∧Cv.dnL 41 0 size=M∧M.length=A.length+1+B.length∧i<size∧size≤2^40∧A.length+B.length≤40∧H≤40∧(∀ b∈M,(b.2+1) * 2^b.1≤size)∧D.length=H+A.length+B.length):=⟨hwy,hM,hMl,hi0,hn0,hln,hH,hin,hDl⟩
 have HD:Hid ((∀ s∈D,s.size=c)∧c≤32∧clk k=c∧1≤k∧k≤32∧rtP c size i A.length H D x=r∧leafT x=lf∧dg c lf=d0):=⟨hsD,hc32,hc,hk1.1,hk1.2,hq,hlf,hd0⟩
 have HH0:Hid (∀ W,Below W0.heap.size W0 W→Calls Tryz.prog 87 #[.int .i64 k,.string lf] W fun e w'=>e = .returned (.string d0)∧Below W.heap.size W w'):=fun W hw=>HHs.out W lf d0 (HS.out W hw).2.2.2.1 zlf hd0
 obtain ⟨e0,e1,e2,e3,e4,e5⟩:=h6.cells
 have hl63:(M.length:Int)≤41:=by omega
 have hD63:(D.length:Int)≤100:=by omega
 have hns0 : ¬ (9223372036854775807<1+x.size):=by omega
 have hxz:decide ((1048576:Int)<(x.size:Int))=false:=decide_eq_false (by omega)
 clear ha hr hi0 hn0 hk1 hwy hln hH hin hMl h6 hM hf hsD hDl hc hc32 hck hT hRt hz2 hq hd0 zlf hlf
 go_enter Tryz.func45,Tryz.ntmps45
 go_upto_region 1 with (fail)
 try rw [hW0]
 clear hW0
 have hbR:=Below.refl W0.heap.size W0
 go_upto_region 8 with (first
  | (go_at_call 85; with_reducible refine (HWe.out _ hb).mono ?_; rintro e w1 ⟨rfl,hb1⟩; obtain ⟨f0,f1,f2,f3,f4,f5⟩:=(HS.out w1 hb1).1.cells)
  | (go_at_call 86; with_reducible refine (HM.out _).mono ?_; rintro e w2 ⟨g,cap,rfl,hR,hb2⟩; obtain ⟨g0,g1,g2,g3,g4,g5⟩:=(HS.out w2 (bnext hb1 hb2)).1.cells; have ci:=(HS.out w2 (bnext hb1 hb2)).2.1)
  | (go_at_call 87; with_reducible refine (HH0.out _ (bnext hb1 hb2)).mono ?_; rintro e w3 ⟨rfl,hb3⟩))
 have HB3:Hid (Below W0.heap.size W0 w3):=bnext (bnext hb1 hb2) hb3
 have HR:Hid (∀ W,Below w3.heap.size w3 W→RdB W (some ⟨g,0,none⟩) g 0 M.length (zl M)):=fun W hb=>hR.below (bnext hb3 hb)
 clear e0 e1 e2 e3 e4 e5 f0 f1 f2 f3 f4 f5 g0 g1 g2 g3 g4 g5 ci hR hb1 hb2 hb3 HWe HM HH0 hbR hb
 obtain ⟨pk,hpk⟩ : ∃ pk,rs c i d0 (D.take H)=pk:=⟨_,rfl⟩
 have HPk:=hide hpk
 clear hpk
 go_wp2
 go_loopg [8,9,10,11] M.length (fun gh d a1 v jj wr => ∃ (j t:Nat) (y:ByteArray),j≤M.length∧gh=M.length - j∧jj = .int .i64 (j:Int)∧d = .string y∧a1 = .int .i64 (t:Int)∧Hid (t=(if A.length<j then H else 0)∧y=rs c i d0 (D.take t)∧OwnS wr w3.heap.size v ((pk0 A.length B.length pk).take j))∧Below w3.heap.size w3 wr)
 case atStart =>
  go_light
  exact ⟨0,0,d0,Nat.zero_le _,rfl,rfl,rfl,rfl,⟨by rw [if_neg (by omega)],by rw [List.take_zero,rs],owns_nil _ _⟩,Below.refl _ _⟩
 case round =>
  obtain ⟨j,t,y,hj,rfl,rfl,rfl,rfl,HI,hb⟩:=hrel
  obtain ⟨hx1,hx2,hx3,hx4,hx5,hx6,hx7,hx8,hx9⟩:=HX.out
  by_cases hlt:j<M.length
  ·have hz:(j:Int)<(M.length:Int):=by omega
   have hz0:(0:Int)≤(j:Int):=Int.natCast_nonneg _
   obtain ⟨ww1,ww2,ww3⟩:=wy_where hx1 hx2 hlt
   have HMc0:Hid (∀ W,Below w3.heap.size w3 W→W.cell? ⟨g,j * 2,none⟩=some (.int .i64 (((M.getD j (0,0)).1:Nat):Int))∧W.cell? ⟨g,j * 2+1,none⟩=some (.int .u64 (((M.getD j (0,0)).2:Nat):Int))):=fun W hb=>by
    have:=(HR.out W hb).cell j hlt
    rw [getD_zl M j hlt,Nat.zero_add] at this
    exact this
   have hmem:M.getD j (0,0)∈M:=by rw [List.getD_eq_getElem?_getD,List.getElem?_eq_getElem hlt]; exact List.getElem_mem _
   have hin:=hx8 _ hmem
   obtain ⟨⟨mh,mk⟩,hmm⟩ : ∃ m,M.getD j (0,0)=m:=⟨_,rfl⟩
   rw [hmm] at HMc0 ww1 ww2 ww3 hin
   obtain ⟨_,hm40,hk40⟩:=fit40 hin hx5
   simp only at hin ww1 ww3 hm40 hk40 HMc0
   obtain ⟨sz,hsz⟩ : ∃ sz,2^mh=sz:=⟨_,rfl⟩
   obtain ⟨lo,hlo⟩ : ∃ lo,mk * sz=lo:=⟨_,rfl⟩
   rw [hsz] at hin ww1 ww3
   have hszp:0<sz:=by rw [← hsz]; exact Nat.two_pow_pos _
   rw [Nat.add_mul,Nat.one_mul,hlo] at hin ww1
   rw [hlo] at ww3
   have HSt:Hid (∀ W,Calls Tryz.prog 88 #[.agg #[.int .i64 (mh:Int),.int .u64 (mk:Int)]] W fun e w'=>e = .returned (.int .u64 (lo:Int))∧Below W.heap.size W w'):=fun W=>start_any W mh mk hm40 (by rw [hsz,hlo]; omega) lo (by rw [hsz,hlo])
   have HSz:Hid (∀ W,Calls Tryz.prog 89 #[.agg #[.int .i64 (mh:Int),.int .u64 (mk:Int)]] W fun e w'=>e = .returned (.int .u64 (sz:Int))∧Below W.heap.size W w'):=fun W=>size_any W mh mk hm40 sz hsz
   obtain ⟨m0,m1⟩:=HMc0.out wr hb
   have e80:IntKind.u64.wrap ((lo:Int)+(sz:Int))=(lo:Int)+(sz:Int):=by rw [IntKind.wrap_u64]; omega
   have hj1:(j:Int)<41:=by omega
   have hpl:=pk0_len A.length B.length pk
   have htk:=take_succ_getD ByteArray.empty (pk0 A.length B.length pk) j (by omega)
   have hpj:=pk0_at A.length B.length pk j (by omega)
   obtain ⟨TK,hTK⟩ : ∃ TK,(pk0 A.length B.length pk).take j=TK:=⟨_,rfl⟩
   have HTk:Hid (TK.length≤41):=by rw [← hTK]; show _≤_; rw [List.length_take]; omega
   rw [hTK] at htk
   have HO:Hid (OwnS wr w3.heap.size u10 TK):=by rw [← hTK]; exact HI.out.2.2
   clear hpl
   rcases Nat.lt_trichotomy j A.length with hjA | hjA | hjA
   ·have hge : ¬ (i:Int)<(lo:Int):=by have:=ww1 hjA; omega
    have hnl:(lo:Int)+(sz:Int)≤(i:Int):=by have:=ww1 hjA; omega
    have HN:Hid (t=(if A.length<j+1 then H else 0)∧y=rs c i d0 (D.take t)∧(pk0 A.length B.length pk).take (j+1)=TK++[(⟨#[]⟩:ByteArray)]):=⟨by rw [HI.out.1]; split <;> split <;> omega,HI.out.2.1,by rw [htk,hpj,if_neg (by omega)]⟩
    clear ww1 ww2 ww3 hx1 hx2 hx3 hx4 hx5 hx6 hx7 hx8 hx9 hmm hin hm40 hk40 hsz hlo hszp hmem htk hpj HI hTK
    go_wp2_with (first
     | (go_at_call 88; with_reducible refine (HSt.out _).mono ?_; rintro e w4 ⟨rfl,hb4⟩; obtain ⟨n0,n1⟩:=HMc0.out w4 (bnext hb hb4))
     | (go_at_call 89; with_reducible refine (HSz.out _).mono ?_; rintro e w5 ⟨rfl,hb5⟩)
     | (at_builtin; refine wpList_append_S _ rfl _ _ rfl w3.heap.size _ TK rfl (own_al (own_next (own_next HO.out hb4 (Nat.le_refl _)) hb5 (Nat.le_refl _)) _) (some ⟨_,0,none⟩) _ 0 1 [(⟨#[]⟩:ByteArray)] rfl (rds_one _ (⟨#[]⟩:ByteArray) (by decide)) (fun h=>by cases h) ?c1 ?c2 ?_))
    case c1=>have:=HTk.out; simp; omega
    case c2=>have:=(bnext (bnext hb hb4) hb5).size; simp; omega
    intro v' w6 o1 o2
    rw [← HN.out.2.2] at o1
    have hb6:Below w3.heap.size w3 w6:=(bal (bnext (bnext hb hb4) hb5) _).trans o2
    clear o2
    go_wp2
    go_roundg (M.length - (j+1))
    case rel =>
     go_light
     exact ⟨j+1,t,y,by omega,rfl,by go_num,rfl,rfl,⟨HN.out.1,HN.out.2.1,o1⟩,hb6⟩
    case measure=>go_light; omega
   ·obtain rfl:mh=H:=congrArg Prod.fst (ww2 hjA)
    have hmk:mk=i / 2^mh:=congrArg Prod.snd (ww2 hjA)
    have hge : ¬ (i:Int)<(lo:Int):=by
     have:mk * 2^mh≤i:=by rw [hmk]; exact Nat.div_mul_le_self _ _
     rw [hsz,hlo] at this; omega
    have hnl : ¬ (lo:Int)+(sz:Int)≤(i:Int):=by
     have:i<(mk+1) * 2^mh:=by rw [hmk]; exact Nat.lt_mul_of_div_lt (Nat.lt_succ_self _) (Nat.two_pow_pos _)
     rw [hsz,Nat.add_mul,hlo] at this; omega
    obtain rfl:t=0:=by rw [HI.out.1,if_neg (by omega)]
    have hyz:y.size=c:=by rw [HI.out.2.1,List.take_zero,rs,← HD.out.2.2.2.2.2.2.2]; exact dg_size HD.out.2.1 _
    have HN0:Hid (y=rs c i d0 (D.take 0)∧(pk0 A.length B.length pk).take (j+1)=TK++[pk]∧j=A.length∧mh≤D.length∧mh≤40∧y.size=c∧i<2^40):=⟨HI.out.2.1,by rw [htk,hpj,if_pos hjA],hjA,by omega,hx7,hyz,by omega⟩
    have HMh:Hid (∀ W,Below w3.heap.size w3 W→W.cell? ⟨g,j * 2,none⟩=some (.int .i64 (mh:Int))):=fun W hb=>(HMc0.out W hb).1
    clear ww1 ww2 ww3 hx1 hx2 hx3 hx4 hx5 hx6 hx7 hx8 hx9 hmm hin hm40 hk40 hsz hlo hszp hmem htk hpj HI hTK hyz hjA hmk
    go_upto_region 18 with (first
     | (go_at_call 88; with_reducible refine (HSt.out _).mono ?_; rintro e w4 ⟨rfl,hb4⟩; obtain ⟨n0,n1⟩:=HMc0.out w4 (bnext hb hb4))
     | (go_at_call 89; with_reducible refine (HSz.out _).mono ?_; rintro e w5 ⟨rfl,hb5⟩))
    have hbw:=bnext (bnext hb hb4) hb5
    have HO5:Hid (OwnS w5 w3.heap.size u10 TK):=own_next (own_next HO.out hb4 (Nat.le_refl _)) hb5 (Nat.le_refl _)
    clear hb hb4 hb5 HO m0 m1 n0 n1 HSt HSz HMc0
    have hgn:decide (i<lo)=false:=decide_eq_false (by omega)
    go_wp2
    try simp only [hgn,Bool.false_or]
    clear hgn hge hnl e80
    go_loopg [8,9,13,14] mh (fun gh d a1 bl hh wr => ∃ (h bq:Nat) (y:ByteArray),h≤mh∧gh=mh - h∧hh = .int .i64 (h:Int)∧a1 = .int .i64 (h:Int)∧bl = .int .u64 (bq:Int)∧d = .string y∧Hid (i / 2^h=bq∧y=rs c i d0 (D.take h)∧y.size=c)∧Below w5.heap.size w5 wr)
    case atStart =>
     go_light
     exact ⟨0,i,y,Nat.zero_le _,rfl,rfl,rfl,rfl,rfl,⟨by simp,HN0.out.1,HN0.out.2.2.2.2.2.1⟩,Below.refl _ _⟩
    case round =>
     obtain ⟨h,bq,y2,hh,rfl,rfl,rfl,rfl,rfl,HJ,hbh⟩:=hrel
     have cm:=HMh.out wr (bnext hbw hbh)
     by_cases hhl:h<mh
     ·have hhz:(h:Int)<(mh:Int):=by omega
      have hhz0:(0:Int)≤(h:Int):=Int.natCast_nonneg _
      have hhD:(h:Int)<(D.length:Int):=by have:=HN0.out.2.2.2.1; omega
      have hh41:(h:Int)<41:=by have:=HN0.out.2.2.2.2.1; omega
      have hhn:h<D.length:=by omega
      have hb0:Below W0.heap.size W0 wr:=bnext (bnext HB3.out hbw) hbh
      obtain rfl:=(HS.out wr hb0).2.2.1.ptr (by omega)
      obtain ⟨z,hz'⟩ : ∃ z,D.getD h ByteArray.empty=z:=⟨_,rfl⟩
      have HZc:Hid (∀ W,Below wr.heap.size wr W→W.cell? ⟨db,dO+h,none⟩=some (.string z)):=fun W hW=>by
       have:=(HS.out W (bnext hb0 hW)).2.2.1.at hhn
       rw [hz'] at this
       exact this
      have zz:z.size=c:=by rw [← hz']; exact HD.out.1 _ (getD_mem hhn)
      have hc32:=HD.out.2.1
      have zy:=HJ.out.2.2
      have hq1 : ¬ (9223372036854775807<1+y2.size):=by omega
      have hq2 : ¬ (9223372036854775807<1+y2.size+z.size):=by omega
      have hq3 : ¬ (9223372036854775807<1+z.size):=by omega
      have hq4 : ¬ (9223372036854775807<1+z.size+y2.size):=by omega
      have hrs:rs c i d0 (D.take (h+1))=dg c (stT bq y2 z):=by
       rw [take_succ_getD ByteArray.empty D h hhn,hz',rs_app,← HJ.out.2.1,List.length_take,Nat.min_eq_left (by omega),HJ.out.1]
      obtain ⟨T1,hT1⟩ : ∃ T1,nodeT y2 z=T1:=⟨_,rfl⟩
      obtain ⟨T2,hT2⟩ : ∃ T2,nodeT z y2=T2:=⟨_,rfl⟩
      have n1:=s1 y2 z
      have n2:=s1 z y2
      rw [hT1] at n1
      rw [hT2] at n2
      have zT1:T1.size≤1000:=by rw [← hT1,nodeT_size]; omega
      have zT2:T2.size≤1000:=by rw [← hT2,nodeT_size]; omega
      have eb:IntKind.u64.wrap ((bq:Int) / 2)=((bq / 2:Nat):Int):=by
       have h1:=HJ.out.1
       have:=Nat.div_le_self i (2^h)
       have:=HN0.out.2.2.2.2.2.2
       rw [IntKind.wrap_u64]; omega
      have hbn:i / 2^(h+1)=bq / 2:=by rw [← half_next,HJ.out.1]
      by_cases hodd:bq % 2=1
      ·have hod:(bq:Int) % 2=1:=by omega
       rw [stT,if_pos hodd,hT2] at hrs
       obtain ⟨y3,hy3⟩ : ∃ y3,dg c T2=y3:=⟨_,rfl⟩
       rw [hy3] at hrs
       have HHt:Hid (∀ W,Below wr.heap.size wr W→Calls Tryz.prog 87 #[.int .i64 k,.string T2] W fun e w'=>e = .returned (.string y3)∧Below W.heap.size W w'):=fun W hw=>HHs.out W T2 y3 (HS.out W (bnext hb0 hw)).2.2.2.1 (by omega) hy3
       have HG:Hid (rs c i d0 (D.take (h+1))=y3∧y3.size=c∧i / 2^(h+1)=bq / 2∧h<mh∧Below w5.heap.size w5 wr):=⟨hrs,by rw [← hy3]; exact dg_size hc32 _,hbn,hhl,hbh⟩
       clear hrs hT1 hT2 zT1 zT2 hbn hodd hz' HJ hy3 hc32 zy zz hhn hhl hbh n1
       go_upto_region 21 with (fail)
       go_cut [8] from 66 to 103 (fun d wx=>d = .string y3∧Below wr.heap.size wr wx)
       case first =>
        obtain ⟨g0,g1,g2,g3,g4,g5⟩:=(HS.out wr hb0).1.cells
        have cz':=HZc.out wr (Below.refl _ _)
        have hdr:=(Below.refl wr.heap.size wr).drew
        clear HG HS HZc HR HMh cm hod
        go_region_with (go_at_call 87; with_reducible refine (HHt.out _ hdr).mono ?_; rintro e w6 ⟨rfl,hb6⟩)
        all_goals
         go_wp2
         go_simp
         go_meet
         case rel =>
          go_light
          exact ⟨rfl,bnext hdr hb6⟩
       case rest =>
        obtain ⟨rfl,hI⟩:=hcut
        clear HHt HZc cm
        go_wp2
        go_roundg (mh - (h+1))
        case rel =>
         go_light
         exact ⟨h+1,bq / 2,y3,by have:=HG.out.2.2.2.1; omega,rfl,by go_num,by go_num,by go_num,rfl,⟨HG.out.2.2.1,HG.out.1.symm,HG.out.2.1⟩,bnext HG.out.2.2.2.2 hI⟩
        case measure=>go_light; have:=HG.out.2.2.2.1; omega
      ·have hod : ¬ (bq:Int) % 2=1:=by omega
       rw [stT,if_neg hodd,hT1] at hrs
       obtain ⟨y3,hy3⟩ : ∃ y3,dg c T1=y3:=⟨_,rfl⟩
       rw [hy3] at hrs
       have HHt:Hid (∀ W,Below wr.heap.size wr W→Calls Tryz.prog 87 #[.int .i64 k,.string T1] W fun e w'=>e = .returned (.string y3)∧Below W.heap.size W w'):=fun W hw=>HHs.out W T1 y3 (HS.out W (bnext hb0 hw)).2.2.2.1 (by omega) hy3
       have HG:Hid (rs c i d0 (D.take (h+1))=y3∧y3.size=c∧i / 2^(h+1)=bq / 2∧h<mh∧Below w5.heap.size w5 wr):=⟨hrs,by rw [← hy3]; exact dg_size hc32 _,hbn,hhl,hbh⟩
       clear hrs hT1 hT2 zT1 zT2 hbn hodd hz' HJ hy3 hc32 zy zz hhn hhl hbh n2
       go_upto_region 22 with (fail)
       go_cut [8] from 66 to 103 (fun d wx=>d = .string y3∧Below wr.heap.size wr wx)
       case first =>
        obtain ⟨g0,g1,g2,g3,g4,g5⟩:=(HS.out wr hb0).1.cells
        have cz':=HZc.out wr (Below.refl _ _)
        have hdr:=(Below.refl wr.heap.size wr).drew
        clear HG HS HZc HR HMh cm hod
        go_region_with (go_at_call 87; with_reducible refine (HHt.out _ hdr).mono ?_; rintro e w6 ⟨rfl,hb6⟩)
        all_goals
         go_wp2
         go_simp
         go_meet
         case rel =>
          go_light
          exact ⟨rfl,bnext hdr hb6⟩
       case rest =>
        obtain ⟨rfl,hI⟩:=hcut
        clear HHt HZc cm
        go_wp2
        go_roundg (mh - (h+1))
        case rel =>
         go_light
         exact ⟨h+1,bq / 2,y3,by have:=HG.out.2.2.2.1; omega,rfl,by go_num,by go_num,by go_num,rfl,⟨HG.out.2.2.1,HG.out.1.symm,HG.out.2.1⟩,bnext HG.out.2.2.2.2 hI⟩
        case measure=>go_light; have:=HG.out.2.2.2.1; omega
     ·obtain rfl:h=mh:=by omega
      have hhz : ¬ ((h:Int)<(h:Int)):=by omega
      obtain rfl:pk=y2:=by rw [← HPk.out,HJ.out.2.1]
      have zpk:pk.size≤32:=by rw [HJ.out.2.2]; exact HD.out.2.1
      have hbk:=bnext hbw hbh
      have HO6:Hid (OwnS wr w3.heap.size u10 TK∧pk.size≤32∧TK.length≤41∧pk=rs c i d0 (D.take h)∧Below w3.heap.size w3 wr):=⟨own_next HO5.out hbh (Nat.le_refl _),zpk,HTk.out,HJ.out.2.1,hbk⟩
      clear hhl HJ hbh hbw HO5 zpk hbk
      go_wp2_with (at_builtin; refine wpList_append_S _ rfl _ _ rfl w3.heap.size _ TK rfl (own_al HO6.out.1 _) (some ⟨wr.heap.size,0,none⟩) wr.heap.size 0 1 [pk] rfl (rds_one wr pk (by have:=HO6.out.2.1; omega)) (fun h=>by cases h) ?c1 ?c2 ?_)
      case c1=>have:=HO6.out.2.2.1; simp; omega
      case c2=>have:=HO6.out.2.2.2.2.size; simp; omega
      intro v' w6 o1 o2
      rw [← HN0.out.2.1] at o1
      have hb6:Below w3.heap.size w3 w6:=(bal HO6.out.2.2.2.2 _).trans o2
      clear o2
      go_wp2
      go_roundg (M.length - (j+1))
      case rel =>
       go_light
       exact ⟨j+1,h,pk,by omega,rfl,by go_num,rfl,rfl,⟨by rw [if_pos (by have:=HN0.out.2.2.1; omega)],HO6.out.2.2.2.1,o1⟩,hb6⟩
      case measure=>go_light; omega
   ·have hge:(i:Int)<(lo:Int):=by have:=ww3 hjA; omega
    have HN:Hid (t=(if A.length<j+1 then H else 0)∧y=rs c i d0 (D.take t)∧(pk0 A.length B.length pk).take (j+1)=TK++[(⟨#[]⟩:ByteArray)]):=⟨by rw [HI.out.1]; split <;> split <;> omega,HI.out.2.1,by rw [htk,hpj,if_neg (by omega)]⟩
    clear ww1 ww2 ww3 hx1 hx2 hx3 hx4 hx5 hx6 hx7 hx8 hx9 hmm hin hm40 hk40 hsz hlo hszp hmem htk hpj HI hTK
    go_wp2_with (first
     | (go_at_call 88; with_reducible refine (HSt.out _).mono ?_; rintro e w4 ⟨rfl,hb4⟩; obtain ⟨n0,n1⟩:=HMc0.out w4 (bnext hb hb4))
     | (go_at_call 89; with_reducible refine (HSz.out _).mono ?_; rintro e w5 ⟨rfl,hb5⟩)
     | (at_builtin; refine wpList_append_S _ rfl _ _ rfl w3.heap.size _ TK rfl (own_al (own_next HO.out hb4 (Nat.le_refl _)) _) (some ⟨_,0,none⟩) _ 0 1 [(⟨#[]⟩:ByteArray)] rfl (rds_one _ (⟨#[]⟩:ByteArray) (by decide)) (fun h=>by cases h) ?c1 ?c2 ?_))
    case c1=>have:=HTk.out; simp; omega
    case c2=>have:=(bnext hb hb4).size; simp; omega
    intro v' w6 o1 o2
    rw [← HN.out.2.2] at o1
    have hb6:Below w3.heap.size w3 w6:=(bal (bnext hb hb4) _).trans o2
    clear o2
    go_wp2
    go_roundg (M.length - (j+1))
    case rel =>
     go_light
     exact ⟨j+1,t,y,by omega,rfl,by go_num,rfl,rfl,⟨HN.out.1,HN.out.2.1,o1⟩,hb6⟩
    case measure=>go_light; omega
  ·obtain rfl:j=M.length:=by omega
   have hz : ¬ ((M.length:Int)<(M.length:Int)):=by omega
   obtain ⟨P,hP⟩ : ∃ P,pkP c i A.length H D x=P:=⟨_,rfl⟩
   obtain ⟨Q,hQ⟩ : ∃ Q,pk0 A.length B.length pk=Q:=⟨_,rfl⟩
   have hQl:Q.length=M.length:=by rw [← hQ,pk0_len]; omega
   have hPl:P.length=M.length:=by rw [← hP,pkP_len (by omega)]; omega
   have hPs : ∀ s∈P,s.size=c:=by rw [← hP]; exact pkP_size HD.out.2.1 HD.out.1
   have hHa:H+A.length≤D.length:=by omega
   have HPQ:Hid (P.length=M.length∧Q.length=M.length∧(∀ s∈P,s.size=c)∧P.getD A.length ByteArray.empty=Q.getD A.length ByteArray.empty∧(∀ j,j<A.length→P.getD j ByteArray.empty=D.getD (H+j) ByteArray.empty)∧(∀ j,A.length<j→P.getD j ByteArray.empty=D.getD (H+(j - 1)) ByteArray.empty)∧dg c (rootT size (bagL c P))=r):=by
    refine ⟨hPl,hQl,hPs,?_,fun j hj => ?_,fun j hj => ?_,?_⟩
    ·rw [← hP,← hQ,pkP_at hHa,if_neg (Nat.lt_irrefl _),if_pos rfl,pk0_at _ _ _ _ (by omega),if_pos rfl,HD.out.2.2.2.2.2.2.1,HD.out.2.2.2.2.2.2.2]; exact HPk.out
    ·rw [← hP,pkP_at hHa,if_pos hj]
    ·rw [← hP,pkP_at hHa,if_neg (by omega),if_neg (by omega)]
    ·rw [← hP]; exact HD.out.2.2.2.2.2.1
   obtain ⟨hI1,hI2,hI3⟩:=HI.out
   rw [hQ,← hQl,List.take_length] at hI3
   rw [if_pos (by omega)] at hI1
   obtain rfl:H=t:=hI1.symm
   obtain ⟨g10,c10,rfl,hg10,hc10,hc11⟩:=own_form hI3 (by omega)
   rw [hQl] at hI3 hc10 ⊢
   have HO:Hid (OwnS wr w3.heap.size (.slice (some ⟨g10,0,none⟩) M.length c10) Q∧Below w3.heap.size w3 wr∧w3.heap.size≤g10):=⟨hI3,hb,hg10⟩
   clear hx1 hx2 hx3 hx4 hx5 hx6 hx7 hx8 hx9 HI hP hQ hQl hPl hPs hHa hI2 hI3 hlt hj hg10 hc10 hc11 HHs HPk hb
   go_wp2
   go_loopg [9,15] M.length (fun gh a1 jj wx => ∃ (j t:Nat),j≤M.length∧gh=M.length - j∧jj = .int .i64 (j:Int)∧a1 = .int .i64 (t:Int)∧Hid (t=(if A.length<j then H+(j - 1) else H+j)∧OwnS wx w3.heap.size (.slice (some ⟨g10,0,none⟩) M.length c10) (P.take j++Q.drop j))∧Below w3.heap.size w3 wx)
   case atStart =>
    go_light
    exact ⟨0,H,Nat.zero_le _,rfl,rfl,rfl,⟨by rw [if_neg (by omega)]; rfl,by rw [List.take_zero,List.drop_zero]; exact HO.out.1⟩,HO.out.2.1⟩
   case round =>
    obtain ⟨j,u,hj,rfl,rfl,rfl,HI,hb⟩:=hrel
    obtain ⟨hx1,hx2,hx3,hx4,hx5,hx6,hx7,hx8,hx9⟩:=HX.out
    by_cases hlt:j<M.length
    ·have hz:(j:Int)<(M.length:Int):=by omega
     have hz0:(0:Int)≤(j:Int):=Int.natCast_nonneg _
     obtain ⟨ww1,ww2,ww3⟩:=wy_where hx1 hx2 hlt
     have HMc0:Hid (∀ W,Below w3.heap.size w3 W→W.cell? ⟨g,j * 2,none⟩=some (.int .i64 (((M.getD j (0,0)).1:Nat):Int))∧W.cell? ⟨g,j * 2+1,none⟩=some (.int .u64 (((M.getD j (0,0)).2:Nat):Int))):=fun W hb=>by
      have:=(HR.out W hb).cell j hlt
      rw [getD_zl M j hlt,Nat.zero_add] at this
      exact this
     have hmem:M.getD j (0,0)∈M:=by rw [List.getD_eq_getElem?_getD,List.getElem?_eq_getElem hlt]; exact List.getElem_mem _
     have hin:=hx8 _ hmem
     obtain ⟨⟨mh,mk⟩,hmm⟩ : ∃ m,M.getD j (0,0)=m:=⟨_,rfl⟩
     rw [hmm] at HMc0 ww1 ww2 ww3 hin
     obtain ⟨_,hm40,hk40⟩:=fit40 hin hx5
     simp only at hin ww1 ww3 hm40 hk40 HMc0
     obtain ⟨sz,hsz⟩ : ∃ sz,2^mh=sz:=⟨_,rfl⟩
     obtain ⟨lo,hlo⟩ : ∃ lo,mk * sz=lo:=⟨_,rfl⟩
     rw [hsz] at hin ww1 ww3
     have hszp:0<sz:=by rw [← hsz]; exact Nat.two_pow_pos _
     rw [Nat.add_mul,Nat.one_mul,hlo] at hin ww1
     rw [hlo] at ww3
     have HSt:Hid (∀ W,Calls Tryz.prog 88 #[.agg #[.int .i64 (mh:Int),.int .u64 (mk:Int)]] W fun e w'=>e = .returned (.int .u64 (lo:Int))∧Below W.heap.size W w'):=fun W=>start_any W mh mk hm40 (by rw [hsz,hlo]; omega) lo (by rw [hsz,hlo])
     have HSz:Hid (∀ W,Calls Tryz.prog 89 #[.agg #[.int .i64 (mh:Int),.int .u64 (mk:Int)]] W fun e w'=>e = .returned (.int .u64 (sz:Int))∧Below W.heap.size W w'):=fun W=>size_any W mh mk hm40 sz hsz
     obtain ⟨m0,m1⟩:=HMc0.out wr hb
     have e80:IntKind.u64.wrap ((lo:Int)+(sz:Int))=(lo:Int)+(sz:Int):=by rw [IntKind.wrap_u64]; omega
     have hj1:(j:Int)<41:=by omega
     obtain ⟨pp1,pp2,pp3,pp4,pp5,pp6,pp7⟩:=HPQ.out
     have hmk:=mx_keep (e:=ByteArray.empty) P Q (by omega) j (by omega)
     have hms:=mx_set (e:=ByteArray.empty) P Q (by omega) j (by omega)
     by_cases hjA:j=A.length
     ·obtain rfl:mh=H:=congrArg Prod.fst (ww2 hjA)
      have hmk':mk=i / 2^mh:=congrArg Prod.snd (ww2 hjA)
      have hge : ¬ (i:Int)<(lo:Int):=by
       have:mk * 2^mh≤i:=by rw [hmk']; exact Nat.div_mul_le_self _ _
       rw [hsz,hlo] at this; omega
      have hnl : ¬ (lo:Int)+(sz:Int)≤(i:Int):=by
       have:i<(mk+1) * 2^mh:=by rw [hmk']; exact Nat.lt_mul_of_div_lt (Nat.lt_succ_self _) (Nat.two_pow_pos _)
       rw [hsz,Nat.add_mul,hlo] at this; omega
      have HN:Hid (u=(if A.length<j+1 then mh+(j+1 - 1) else mh+(j+1))∧P.take (j+1)++Q.drop (j+1)=P.take j++Q.drop j):=⟨by rw [HI.out.1,if_neg (by omega),if_pos (by omega)]; omega,hmk (by rw [hjA]; exact pp4)⟩
      clear ww1 ww2 ww3 hx1 hx2 hx3 hx4 hx5 hx6 hx7 hx8 hx9 hmm hin hm40 hk40 hsz hlo hszp hmem hjA hmk' hmk hms pp1 pp2 pp3 pp4 pp5 pp6 pp7
      go_wp2_with (first
       | (go_at_call 88; with_reducible refine (HSt.out _).mono ?_; rintro e w4 ⟨rfl,hb4⟩; obtain ⟨n0,n1⟩:=HMc0.out w4 (bnext hb hb4))
       | (go_at_call 89; with_reducible refine (HSz.out _).mono ?_; rintro e w5 ⟨rfl,hb5⟩))
      go_roundg (M.length - (j+1))
      case rel =>
       go_light
       exact ⟨j+1,u,by omega,rfl,by go_num,rfl,⟨HN.out.1,by rw [HN.out.2]; exact own_next (own_next HI.out.2 hb4 (Nat.le_refl _)) hb5 (Nat.le_refl _)⟩,bnext (bnext hb hb4) hb5⟩
      case measure=>go_light; omega
     ·have hzP:P.getD j ByteArray.empty=D.getD u ByteArray.empty:=by
       rw [HI.out.1]
       rcases Nat.lt_or_gt_of_ne hjA with h | h
       ·rw [pp5 j h,if_neg (by omega)]
       ·rw [pp6 j h,if_pos h]
      have huD:u<D.length:=by rw [HI.out.1]; split <;> omega
      have huz:(u:Int)<(D.length:Int):=by omega
      have hu0:(0:Int)≤(u:Int):=Int.natCast_nonneg _
      have hb0:Below W0.heap.size W0 wr:=bnext HB3.out hb
      obtain rfl:=(HS.out wr hb0).2.2.1.ptr (by omega)
      obtain ⟨z,hz'⟩ : ∃ z,D.getD u ByteArray.empty=z:=⟨_,rfl⟩
      have HZc:Hid (∀ W,Below wr.heap.size wr W→W.cell? ⟨db,dO+u,none⟩=some (.string z)∧Six W w.heap.size (.int .i64 1) (.int .i64 k) (.int .u64 0) (.int .u64 (size:Int)) (.slice (some ⟨b,o,none⟩) 1 sc) (.slice (some ⟨db,dO,none⟩) D.length dc)):=fun W hW=>by
       have:=(HS.out W (bnext hb0 hW)).2.2.1.at huD
       rw [hz'] at this
       exact ⟨this,(HS.out W (bnext hb0 hW)).1⟩
      rw [hzP,hz'] at hms
      have hmz:(P.take j++Q.drop j).length=M.length:=by rw [List.length_append,List.length_take,List.length_drop]; omega
      have HN:Hid (u+1=(if A.length<j+1 then H+(j+1 - 1) else H+(j+1))∧(P.take j++Q.drop j).set j z=P.take (j+1)++Q.drop (j+1)):=⟨by rw [HI.out.1]; split <;> split <;> omega,hms⟩
      have hu1:(u:Int)<100:=by omega
      rcases Nat.lt_or_gt_of_ne hjA with h | h
      ·have hge : ¬ (i:Int)<(lo:Int):=by have:=ww1 h; omega
       have hnl:(lo:Int)+(sz:Int)≤(i:Int):=by have:=ww1 h; omega
       have HJ:Hid (∀ W,Below wr.heap.size wr W→OwnS W w3.heap.size (.slice (some ⟨g10,0,none⟩) M.length c10) (P.take j++Q.drop j)):=fun W hW=>own_next HI.out.2 hW (Nat.le_refl _)
       have HL:Hid (j<(P.take j++Q.drop j).length):=by show _<_; rw [hmz]; exact hlt
       clear ww1 ww2 ww3 hx1 hx2 hx3 hx4 hx5 hx6 hx7 hx8 hx9 hmm hin hm40 hk40 hsz hlo hszp hmem hjA hmk hms pp1 pp2 pp3 pp4 pp5 pp6 pp7 h hzP hz' hmz HI huD
       go_wp2_with (first
        | (go_at_call 88; with_reducible refine (HSt.out _).mono ?_; rintro e w4 ⟨rfl,hb4⟩; obtain ⟨n0,n1⟩:=HMc0.out w4 (bnext hb hb4))
        | (go_at_call 89; with_reducible refine (HSz.out _).mono ?_; rintro e w5 ⟨rfl,hb5⟩; have hw5:=bnext hb4 hb5; obtain ⟨cz,h6⟩:=HZc.out w5 hw5; obtain ⟨q0,q1,q2,q3,q4,q5⟩:=h6.cells; obtain ⟨x1,x2⟩:=own_cell (HJ.out w5 hw5) HL.out))
       go_roundg (M.length - (j+1))
       case rel =>
        go_light
        exact ⟨j+1,u+1,by omega,rfl,by go_num,by go_num,⟨HN.out.1,by rw [← HN.out.2]; exact own_putS (HJ.out w5 hw5) z⟩,(bnext hb hw5).setCell HO.out.2.2 _⟩
       case measure=>go_light; omega
      ·have hge:(i:Int)<(lo:Int):=by have:=ww3 h; omega
       have HJ:Hid (∀ W,Below wr.heap.size wr W→OwnS W w3.heap.size (.slice (some ⟨g10,0,none⟩) M.length c10) (P.take j++Q.drop j)):=fun W hW=>own_next HI.out.2 hW (Nat.le_refl _)
       have HL:Hid (j<(P.take j++Q.drop j).length):=by show _<_; rw [hmz]; exact hlt
       clear ww1 ww2 ww3 hx1 hx2 hx3 hx4 hx5 hx6 hx7 hx8 hx9 hmm hin hm40 hk40 hsz hlo hszp hmem hjA hmk hms pp1 pp2 pp3 pp4 pp5 pp6 pp7 h hzP hz' hmz HI huD
       go_wp2_with (go_at_call 88; with_reducible refine (HSt.out _).mono ?_; rintro e w4 ⟨rfl,hb4⟩; obtain ⟨n0,n1⟩:=HMc0.out w4 (bnext hb hb4); obtain ⟨cz,h6⟩:=HZc.out w4 hb4; obtain ⟨q0,q1,q2,q3,q4,q5⟩:=h6.cells; obtain ⟨x1,x2⟩:=own_cell (HJ.out w4 hb4) HL.out)
       go_roundg (M.length - (j+1))
       case rel =>
        go_light
        exact ⟨j+1,u+1,by omega,rfl,by go_num,by go_num,⟨HN.out.1,by rw [← HN.out.2]; exact own_putS (HJ.out w4 hb4) z⟩,(bnext hb hb4).setCell HO.out.2.2 _⟩
       case measure=>go_light; omega
    ·obtain rfl:j=M.length:=by omega
     have hz : ¬ ((M.length:Int)<(M.length:Int)):=by omega
     obtain ⟨pp1,pp2,pp3,pp4,pp5,pp6,pp7⟩:=HPQ.out
     have ho:=HI.out.2
     rw [← pp1,List.take_length,pp1,← pp2,List.drop_length,List.append_nil,pp2] at ho
     obtain ⟨ao,bo,cp,hv,hrd,_⟩:=owns_rds ho (fun s hs=>by have:=pp3 s hs; have:=HD.out.2.1; omega)
     obtain ⟨hv1,hv2,hv3⟩:=Value.slice.inj hv
     rw [pp1] at hrd
     have hb0:Below W0.heap.size W0 wr:=bnext HB3.out hb
     obtain ⟨h6,_,_,hTr,hbw,hRt⟩:=HS.out wr hb0
     have HC:Hid (Calls Tryz.prog 90 #[.int .i64 k,.int .u64 (size:Int),.slice (some ⟨g10,0,none⟩) M.length c10] wr fun e w'=>e = .returned (.agg #[.int .u64 (size:Int),.string r])∧Below wr.heap.size wr w'):=by
      rw [hv1]
      exact refcommit_any wr hTr k HD.out.2.2.2.1 HD.out.2.2.2.2.1 size (by omega) ao bo 0 M.length c10 P hrd (fun s hs=>by have:=pp3 s hs; have:=HD.out.2.1; omega) (by omega) (by omega) r (by rw [HD.out.2.2.1]; exact pp7)
     obtain ⟨q0,q1,q2,q3,q4,q5⟩:=h6.cells
     have HRt:=hide (And.intro hRt hbw)
     clear hx1 hx2 hx3 hx4 hx5 hx6 hx7 hx8 hx9 pp1 pp2 pp3 pp4 pp5 pp6 pp7 ho hv hv1 hv2 hv3 hrd h6 hTr hbw hRt hlt hj HI HO HR HS
     go_wp2_with (go_at_call 90; with_reducible refine HC.out.mono ?_; rintro e w4 ⟨rfl,hb4⟩; have hR3:=HRt.out.1.below hb4 (World.block_lt_of_cell? wr _ HRt.out.1.c0); have k0:=hR3.c0; have k1:=hR3.c1; have f0:=hR3.f0; have f1:=hR3.f1)
     obtain ⟨s0,s1,hch⟩:=rt_put hR3 (size:Int) r
     refine bodyPost_ret (v := .tuple #[.agg #[.int .u64 (size:Int),.string r],.int .i64 0]) (by simp [results,Tryz.results45,go_sem,s0,s1]) rfl ⟨rfl,?_⟩
     exact (bnext HRt.out.2 hb4).trans (hch.below (by rintro b rfl; omega))
end Go.Proofs.YtipcenbndhnnhaaGreatDoor
