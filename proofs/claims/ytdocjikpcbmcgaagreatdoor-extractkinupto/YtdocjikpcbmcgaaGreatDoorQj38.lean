/- Own work. -/
import Derived.Test.YtdocjikpcbmcgaaGreatDoorQj36
set_option maxRecDepth 100000
set_option maxHeartbeats 4000000
namespace Go.Proofs.YtdocjikpcbmcgaaGreatDoor
open Go.RowKit
attribute [local go_sem ↓] Go.wp_at_zero Go.wp_at_succ
theorem block_cutL (w:World) (k:Int) (v1 v2:Value) (h i:Nat) (d1 d2:BA) (U:Pq) (hU:un ⟨#[]⟩ ⟨#[]⟩=U)
    (HE1:Hid (∀W,Zb w W->Zr 214 #[v1,bkV h i] W (ba d1)))
    (HE2:Hid (∀W,Zb w W->Zr 214 #[v2,bkV h i] W (ba d2))) :
    Zr 76 #[wkV k v1 69 v2,bkV h i] w (snV d1 d2 U):=by
  have HD1:Hid (∀W,Zb w W->Zr 223 #[.string d1,.int .i64 k] W (.string d1)):=fun W _=>J4 W k d1
  have HD2:Hid (∀W,Zb w W->Zr 223 #[.string d2,.int .i64 k] W (.string d2)):=fun W _=>J4 W k d2
  have HT1:Hid (∀W,Zr 129 #[ba d1] W (.string ⟨#[]⟩)):=fun W=>Qbh W d1
  have HT2:Hid (∀W,Zr 129 #[ba d2] W (.string ⟨#[]⟩)):=fun W=>Qbh W d2
  have HU:Hid (∀W,Zr 70 #[.string ⟨#[]⟩,.string ⟨#[]⟩] W (pv U)):=fun W=>Y8 W _ _ U hU
  have HO:Hid (∀W,Zr 73 #[pv U,.agg #[.string ⟨#[]⟩,.string ⟨#[]⟩,.bool false]] W (pv U)):=fun W=>JR W U none U (by cases U <;> rfl)
  obtain⟨W0,hW0,hb0,hB⟩:=U1 w k v1 69 v2 (h:Int) (i:Int);have HX:Hid (∀V,Zb W0 V->V.cell? ⟨w.heap.size,1,none⟩=some (.iface 69 v1)∧V.cell? ⟨w.heap.size,2,none⟩=some (.iface 69 v2)∧V.cell? ⟨w.heap.size+1,0,none⟩=some (.int .i64 (h:Int))∧V.cell? ⟨w.heap.size+1,1,none⟩=some (.int .u64 (i:Int))):=fun V hb=>⟨(hB.next hb).c1,(hB.next hb).c2,(hB.next hb).d0,(hB.next hb).d1⟩
  have HB:=Qc hB;have xc:=(Below.refl W0.heap.size W0).drew;obtain⟨k1,k2,k3,k4⟩:=HX.out W0 (Below.refl _ _);clear hB hU
  go_enter Tryz.func76,Tryz.ntmps76
  go_upto_region 1 with (fail)
  try rw[hW0]
  clear hW0
  go_region_held3 (fun V=>V.cell? ⟨w.heap.size,1,none⟩=some (.iface 69 v1)∧V.cell? ⟨w.heap.size,2,none⟩=some (.iface 69 v2)∧V.cell? ⟨w.heap.size+1,0,none⟩=some (.int .i64 (h:Int))∧V.cell? ⟨w.heap.size+1,1,none⟩=some (.int .u64 (i:Int)))
    (first|with_reducible exact HX.out _ xc|with_reducible exact HX.out _ (Below.refl _ _))
    (first
      | (go_at_call 214;with_reducible refine(HE1.out _ (Qa hb0 xc)).mono ?_;rintro e w1 ⟨rfl,hb1⟩;replace xc:=Qa xc hb1;clear hb1)
      | (go_at_call 214;with_reducible refine(HE2.out _ (Qa hb0 xc)).mono ?_;rintro e w1 ⟨rfl,hb1⟩;replace xc:=Qa xc hb1;clear hb1))
  have x5:=HB.out.next xc;have xb:=Qa hb0 xc;clear k1 k2 k3 k4 HX
  go_upto_region 3 with (fail)
  obtain⟨F,hFe,h3,hb3⟩:=Jp w1
  try rw[hFe]
  clear hFe;have x6:=x5.next hb3;have xbF:=Qa xb hb3;have hl9:w.heap.size+1+1<w1.heap.size:=x5.s5.lt;have HB9:Hid (∀V,Zb F V->Zb w V):=fun V hb=>Qa xbF hb
  have HK9:Hid (∀V,Zb F V->V.cell? ⟨w.heap.size,0,none⟩=some (.int .i64 k)∧V.cell? ⟨w1.heap.size,0,none⟩=some (.string (⟨#[]⟩))∧V.cell? ⟨w1.heap.size,1,none⟩=some (.string (⟨#[]⟩))∧V.cell? ⟨w1.heap.size,2,none⟩=some (.bool (false))):=fun V hb=>⟨(x6.next hb).c0,(h3.next hb).cells⟩
  have HQ:Hid (∀V x y q,Zb F V->(YY V (w.heap.size+1+1) x y q).cell? ⟨w.heap.size,0,none⟩=some (.int .i64 k)∧(YY V (w.heap.size+1+1) x y q).cell? ⟨w1.heap.size,0,none⟩=some (.string (⟨#[]⟩))∧(YY V (w.heap.size+1+1) x y q).cell? ⟨w1.heap.size,1,none⟩=some (.string (⟨#[]⟩))∧(YY V (w.heap.size+1+1) x y q).cell? ⟨w1.heap.size,2,none⟩=some (.bool (false))):=fun V x y q hb=>by
    obtain⟨q0,q1,q2,q3⟩:=HK9.out V hb;have n1:w.heap.size≠w.heap.size+1+1:=by omega
    have n2:w1.heap.size≠w.heap.size+1+1:=by omega
    exact⟨Qu x y q q0 n1,Qu x y q q1 n2,Qu x y q q2 n2,Qu x y q q3 n2⟩
  have HS9:Hid (∀V,Zb F V->S5 V (w.heap.size+1+1) ⟨#[]⟩ ⟨#[]⟩ none):=fun V hb=>(x6.next hb).s5
  obtain⟨e0,e1,e2,e3⟩:=HK9.out F (Below.refl _ _);have xc9:=(Below.refl F.heap.size F).drew;clear x5 x6 xb hb3 HE1 HE2 HB h3 xc hl9
  go_upto_region 9 with (fail)
  go_region_held3 (fun V=>V.cell? ⟨w.heap.size,0,none⟩=some (.int .i64 k)∧V.cell? ⟨w1.heap.size,0,none⟩=some (.string (⟨#[]⟩))∧V.cell? ⟨w1.heap.size,1,none⟩=some (.string (⟨#[]⟩))∧V.cell? ⟨w1.heap.size,2,none⟩=some (.bool (false)))
    (first|with_reducible exact HK9.out _ xc9|with_reducible exact HQ9.out|with_reducible exact HK9.out _ (Below.refl _ _))
    (first
      | (go_at_call 223;first
          | (with_reducible refine(HD1.out _ (HB9.out _ xc9)).mono ?_)
          | (with_reducible refine(HD2.out _ (HB9.out _ xc9)).mono ?_)
         rintro e w2 ⟨rfl,hb1⟩;replace xc9:=Qa xc9 hb1;clear hb1)
      | (go_at_call 129;first
          | (with_reducible refine(HT1.out _).mono ?_)
          | (with_reducible refine(HT2.out _).mono ?_)
         rintro e w2 ⟨rfl,hb1⟩;replace xc9:=Qa xc9 hb1;clear hb1)
      | (go_at_call 70;with_reducible refine(HU.out _).mono ?_;rintro e w2 ⟨rfl,hb1⟩;replace xc9:=Qa xc9 hb1;clear hb1)
      | (go_at_call 73;with_reducible refine(HO.out _).mono ?_;rintro e w9 ⟨rfl,hb1⟩;replace xc9:=Qa xc9 hb1;clear hb1
         have s9:=HS9.out _ xc9;obtain⟨a0,a1,a2,a3,a4⟩:=s9.cells;have fz:=s9.fz;have HQ9:=Qc (HQ.out w9 d1 d2 U xc9)))
  have hp:=s9.put d1 d2 U;have hch:=Jq w9 (w.heap.size+1+1) d1 d2 U;obtain⟨b0,b1,b2,b3,b4⟩:=hp.cells;go_wp2;refine bodyPost_ret (v:=snV d1 d2 U) (by simp[results,Tryz.results76,go_sem,b0,b1,b2,b3,b4]) rfl ⟨rfl,?_⟩
  exact(HB9.out _ xc9).trans (hch.below (by rintro b rfl;omega))
theorem block_leafL (w:World) (k:Int) (v1 v2:Value) (h i:Nat) (ht:Tb w) (t1 t2:BA) (hs1:t1.size<4611686018427387904) (hs2:t2.size<4611686018427387904) (r1 r2:BA) (hr1:dg (clk k) t1=r1) (hr2:dg (clk k) t2=r2) (U:Pq) (hU:un t1 t2=U)
    (HE1:Hid (∀W,Zb w W->Zr 214 #[v1,bkV h i] W (wo t1)))
    (HE2:Hid (∀W,Zb w W->Zr 214 #[v2,bkV h i] W (wo t2))) :
    Zr 76 #[wkV k v1 69 v2,bkV h i] w (snV r1 r2 U):=by
  have HD1:Hid (∀W,Zb w W->Zr 222 #[.string t1,.int .i64 k] W (.string r1)):=fun W hb=>YR W (ht.next hb) k t1 hs1 r1 hr1
  have HD2:Hid (∀W,Zb w W->Zr 222 #[.string t2,.int .i64 k] W (.string r2)):=fun W hb=>YR W (ht.next hb) k t2 hs2 r2 hr2
  have HT1:Hid (∀W,Zr 129 #[wo t1] W (.string t1)):=fun W=>UQ W t1
  have HT2:Hid (∀W,Zr 129 #[wo t2] W (.string t2)):=fun W=>UQ W t2
  have HU:Hid (∀W,Zr 70 #[.string t1,.string t2] W (pv U)):=fun W=>Y8 W _ _ U hU
  have HO:Hid (∀W,Zr 73 #[pv U,.agg #[.string ⟨#[]⟩,.string ⟨#[]⟩,.bool false]] W (pv U)):=fun W=>JR W U none U (by cases U <;> rfl)
  obtain⟨W0,hW0,hb0,hB⟩:=U1 w k v1 69 v2 (h:Int) (i:Int);have HX:Hid (∀V,Zb W0 V->V.cell? ⟨w.heap.size,1,none⟩=some (.iface 69 v1)∧V.cell? ⟨w.heap.size,2,none⟩=some (.iface 69 v2)∧V.cell? ⟨w.heap.size+1,0,none⟩=some (.int .i64 (h:Int))∧V.cell? ⟨w.heap.size+1,1,none⟩=some (.int .u64 (i:Int))):=fun V hb=>⟨(hB.next hb).c1,(hB.next hb).c2,(hB.next hb).d0,(hB.next hb).d1⟩
  have HB:=Qc hB;have xc:=(Below.refl W0.heap.size W0).drew;obtain⟨k1,k2,k3,k4⟩:=HX.out W0 (Below.refl _ _);clear hB ht hs1 hs2 hr1 hr2 hU
  go_enter Tryz.func76,Tryz.ntmps76
  go_upto_region 1 with (fail)
  try rw[hW0]
  clear hW0
  go_region_held3 (fun V=>V.cell? ⟨w.heap.size,1,none⟩=some (.iface 69 v1)∧V.cell? ⟨w.heap.size,2,none⟩=some (.iface 69 v2)∧V.cell? ⟨w.heap.size+1,0,none⟩=some (.int .i64 (h:Int))∧V.cell? ⟨w.heap.size+1,1,none⟩=some (.int .u64 (i:Int)))
    (first|with_reducible exact HX.out _ xc|with_reducible exact HX.out _ (Below.refl _ _))
    (first
      | (go_at_call 214;with_reducible refine(HE1.out _ (Qa hb0 xc)).mono ?_;rintro e w1 ⟨rfl,hb1⟩;replace xc:=Qa xc hb1;clear hb1)
      | (go_at_call 214;with_reducible refine(HE2.out _ (Qa hb0 xc)).mono ?_;rintro e w1 ⟨rfl,hb1⟩;replace xc:=Qa xc hb1;clear hb1))
  have x5:=HB.out.next xc;have xb:=Qa hb0 xc;clear k1 k2 k3 k4 HX
  go_upto_region 3 with (fail)
  obtain⟨F,hFe,h3,hb3⟩:=Jp w1
  try rw[hFe]
  clear hFe;have x6:=x5.next hb3;have xbF:=Qa xb hb3;have hl9:w.heap.size+1+1<w1.heap.size:=x5.s5.lt;have HB9:Hid (∀V,Zb F V->Zb w V):=fun V hb=>Qa xbF hb
  have HK9:Hid (∀V,Zb F V->V.cell? ⟨w.heap.size,0,none⟩=some (.int .i64 k)∧V.cell? ⟨w1.heap.size,0,none⟩=some (.string (⟨#[]⟩))∧V.cell? ⟨w1.heap.size,1,none⟩=some (.string (⟨#[]⟩))∧V.cell? ⟨w1.heap.size,2,none⟩=some (.bool (false))):=fun V hb=>⟨(x6.next hb).c0,(h3.next hb).cells⟩
  have HQ:Hid (∀V x y q,Zb F V->(YY V (w.heap.size+1+1) x y q).cell? ⟨w.heap.size,0,none⟩=some (.int .i64 k)∧(YY V (w.heap.size+1+1) x y q).cell? ⟨w1.heap.size,0,none⟩=some (.string (⟨#[]⟩))∧(YY V (w.heap.size+1+1) x y q).cell? ⟨w1.heap.size,1,none⟩=some (.string (⟨#[]⟩))∧(YY V (w.heap.size+1+1) x y q).cell? ⟨w1.heap.size,2,none⟩=some (.bool (false))):=fun V x y q hb=>by
    obtain⟨q0,q1,q2,q3⟩:=HK9.out V hb;have n1:w.heap.size≠w.heap.size+1+1:=by omega
    have n2:w1.heap.size≠w.heap.size+1+1:=by omega
    exact⟨Qu x y q q0 n1,Qu x y q q1 n2,Qu x y q q2 n2,Qu x y q q3 n2⟩
  have HS9:Hid (∀V,Zb F V->S5 V (w.heap.size+1+1) ⟨#[]⟩ ⟨#[]⟩ none):=fun V hb=>(x6.next hb).s5
  obtain⟨e0,e1,e2,e3⟩:=HK9.out F (Below.refl _ _);have xc9:=(Below.refl F.heap.size F).drew;clear x5 x6 xb hb3 HE1 HE2 HB h3 xc hl9
  go_upto_region 9 with (fail)
  go_region_held3 (fun V=>V.cell? ⟨w.heap.size,0,none⟩=some (.int .i64 k)∧V.cell? ⟨w1.heap.size,0,none⟩=some (.string (⟨#[]⟩))∧V.cell? ⟨w1.heap.size,1,none⟩=some (.string (⟨#[]⟩))∧V.cell? ⟨w1.heap.size,2,none⟩=some (.bool (false)))
    (first|with_reducible exact HK9.out _ xc9|with_reducible exact HQ9.out|with_reducible exact HK9.out _ (Below.refl _ _))
    (first
      | (go_at_call 222;first
          | (with_reducible refine(HD1.out _ (HB9.out _ xc9)).mono ?_)
          | (with_reducible refine(HD2.out _ (HB9.out _ xc9)).mono ?_)
         rintro e w2 ⟨rfl,hb1⟩;replace xc9:=Qa xc9 hb1;clear hb1)
      | (go_at_call 129;first
          | (with_reducible refine(HT1.out _).mono ?_)
          | (with_reducible refine(HT2.out _).mono ?_)
         rintro e w2 ⟨rfl,hb1⟩;replace xc9:=Qa xc9 hb1;clear hb1)
      | (go_at_call 70;with_reducible refine(HU.out _).mono ?_;rintro e w2 ⟨rfl,hb1⟩;replace xc9:=Qa xc9 hb1;clear hb1)
      | (go_at_call 73;with_reducible refine(HO.out _).mono ?_;rintro e w9 ⟨rfl,hb1⟩;replace xc9:=Qa xc9 hb1;clear hb1
         have s9:=HS9.out _ xc9;obtain⟨a0,a1,a2,a3,a4⟩:=s9.cells;have fz:=s9.fz;have HQ9:=Qc (HQ.out w9 r1 r2 U xc9)))
  have hp:=s9.put r1 r2 U;have hch:=Jq w9 (w.heap.size+1+1) r1 r2 U;obtain⟨b0,b1,b2,b3,b4⟩:=hp.cells;go_wp2;refine bodyPost_ret (v:=snV r1 r2 U) (by simp[results,Tryz.results76,go_sem,b0,b1,b2,b3,b4]) rfl ⟨rfl,?_⟩
  exact(HB9.out _ xc9).trans (hch.below (by rintro b rfl;omega))
theorem block_nodeL (w:World) (k:Int) (v1 v2:Value) (g h i j m:Nat) (hg:g=h+1) (hh:g<=40) (hj:j=2*i) (hm:m=j+1) (hi:i<1099511627776) (ht:Tb w)
    (x1 y1 x2 y2:BA) (q1 q2:Pq) (hs:x1.size<=32∧y1.size<=32∧x2.size<=32∧y2.size<=32) (t1 t2:BA) (ht1:QE x1 x2=t1) (ht2:QE y1 y2=t2) (r1 r2:BA) (hr1:dg (clk k) t1=r1) (hr2:dg (clk k) t2=r2) (U Y Z:Pq) (hU:un t1 t2=U) (hY:q1.or q2=Y) (hZ:U.or Y=Z)
    (HE1:Hid (∀W,Zb w W->Calls Tryz.prog 214 #[v1,bkV g i] W fun e w'=>e = .returned .nilIface∧Zb W w'))
    (HE2:Hid (∀W,Zb w W->Calls Tryz.prog 214 #[v2,bkV g i] W fun e w'=>e = .returned .nilIface∧Zb W w'))
    (HL1:Hid (∀W,Zb w W->Zr 76 #[wkV k v1 69 v2,bkV h j] W (snV x1 y1 q1)))
    (HL2:Hid (∀W,Zb w W->Zr 76 #[wkV k v1 69 v2,bkV h m] W (snV x2 y2 q2))) :
    Zr 76 #[wkV k v1 69 v2,bkV g i] w (snV r1 r2 Z):=by
  have hs1:t1.size<4611686018427387904:=by rw[<-ht1,Yx];omega
  have hs2:t2.size<4611686018427387904:=by rw[<-ht2,Yx];omega
  have HD1:Hid (∀W,Zb w W->Zr 222 #[.string t1,.int .i64 k] W (.string r1)):=fun W hb=>YR W (ht.next hb) k t1 hs1 r1 hr1
  have HD2:Hid (∀W,Zb w W->Zr 222 #[.string t2,.int .i64 k] W (.string r2)):=fun W hb=>YR W (ht.next hb) k t2 hs2 r2 hr2
  have HT1:Hid (∀W,Zr 129 #[wo t1] W (.string t1)):=fun W=>UQ W t1
  have HT2:Hid (∀W,Zr 129 #[wo t2] W (.string t2)):=fun W=>UQ W t2
  have HU:Hid (∀W,Zr 70 #[.string t1,.string t2] W (pv U)):=fun W=>Y8 W _ _ U hU
  have HO:Hid (∀W,Zr 73 #[pv U,pv Y] W (pv Z)):=fun W=>JR W U Y Z hZ
  have HN1:Hid (∀W,Zr 128 #[.string x1,.string x2] W (.string t1)):=fun W=>by have:=U7 W x1 x2 (by omega) (by omega);rwa [ht1] at this
  have HN2:Hid (∀W,Zr 128 #[.string y1,.string y2] W (.string t2)):=fun W=>by have:=U7 W y1 y2 (by omega) (by omega);rwa [ht2] at this
  have HOY:Hid (∀W,Zr 73 #[pv q1,pv q2] W (pv Y)):=fun W=>JR W q1 q2 Y hY
  obtain⟨W0,hW0,hb0,hB⟩:=U1 w k v1 69 v2 (g:Int) (i:Int);have HX:Hid (∀V,Zb W0 V->V.cell? ⟨w.heap.size,1,none⟩=some (.iface 69 v1)∧V.cell? ⟨w.heap.size,2,none⟩=some (.iface 69 v2)∧V.cell? ⟨w.heap.size+1,0,none⟩=some (.int .i64 (g:Int))∧V.cell? ⟨w.heap.size+1,1,none⟩=some (.int .u64 (i:Int))):=fun V hb=>⟨(hB.next hb).c1,(hB.next hb).c2,(hB.next hb).d0,(hB.next hb).d1⟩
  have HB:=Qc hB;have xc:=(Below.refl W0.heap.size W0).drew;obtain⟨k1,k2,k3,k4⟩:=HX.out W0 (Below.refl _ _);have u1:(g:Int) - 1=(h:Int):=by omega
  have u2:2*(i:Int)=(j:Int):=by omega
  have u3:(j:Int)+1=(m:Int):=by omega
  have u4:(j:Int)<=2199023255552:=by omega
  have u5:(g:Int)<=40:=by omega
  have HU9:=Qc (And.intro u1 (And.intro u2 (And.intro u3 (And.intro u4 u5))));clear hB ht hs1 hs2 hr1 hr2 hU hY hZ ht1 ht2 hs hg hh hj hi hm u1 u2 u3 u4 u5
  go_enter Tryz.func76,Tryz.ntmps76
  go_upto_region 1 with (fail)
  try rw[hW0]
  clear hW0
  go_region_held3 (fun V=>V.cell? ⟨w.heap.size,1,none⟩=some (.iface 69 v1)∧V.cell? ⟨w.heap.size,2,none⟩=some (.iface 69 v2)∧V.cell? ⟨w.heap.size+1,0,none⟩=some (.int .i64 (g:Int))∧V.cell? ⟨w.heap.size+1,1,none⟩=some (.int .u64 (i:Int)))
    (first|with_reducible exact HX.out _ xc|with_reducible exact HX.out _ (Below.refl _ _))
    (first
      | (go_at_call 214;with_reducible refine(HE1.out _ (Qa hb0 xc)).mono ?_;rintro e w1 ⟨rfl,hb1⟩;replace xc:=Qa xc hb1;clear hb1)
      | (go_at_call 214;with_reducible refine(HE2.out _ (Qa hb0 xc)).mono ?_;rintro e w1 ⟨rfl,hb1⟩;replace xc:=Qa xc hb1;clear hb1))
  have x5:=HB.out.next xc;have xb:=Qa hb0 xc;clear k1 k2 k3 k4 HX
  go_upto_region 3 with (fail)
  obtain⟨F,hFe,h3,hb3⟩:=Jp w1
  try rw[hFe]
  clear hFe;have x6:=x5.next hb3;have xbF:=Qa xb hb3;have hl9:w.heap.size+1+1<w1.heap.size:=x5.s5.lt;have ⟨c0,c1,c2,d0,d1,_⟩:=x6;obtain⟨u1,u2,u3,u4,u5⟩:=HU9.out;clear x5 xb hb3 HE1 HE2 HB xc;have H3:=Qc h3;have H6:=Qc x6;clear h3 x6
  go_upto_region 5 with (go_at_call 76;with_reducible refine(HL1.out _ xbF).mono ?_;rintro e w2 ⟨rfl,hb2⟩)
  obtain⟨F2,hFe,s51,hb4,hsz2⟩:=Qb7 w2 x1 y1 q1
  try rw[hFe]
  clear hFe;have y6:=H6.out.next (Qa hb2 hb4);have ⟨c0',c1',c2',d0',d1',_⟩:=y6;have xb2:=Qa xbF (Qa hb2 hb4);have hz2:w1.heap.size<w2.heap.size:=(H3.out.next hb2).lt;clear c0 c1 c2 d0 d1 y6
  go_upto_region 6 with (go_at_call 76;with_reducible refine(HL2.out _ xb2).mono ?_;rintro e w3 ⟨rfl,hb5⟩)
  obtain⟨F3,hFe,s52,hb6,hsz3⟩:=Qb7 w3 x2 y2 q2
  try rw[hFe]
  clear hFe;have s53:=s51.next (Qa hb5 hb6);obtain⟨a0,a1,a2,a3,a4⟩:=s53.cells;obtain⟨b0,b1,b2,b3,b4⟩:=s52.cells;have xb3:=Qa xb2 (Qa hb5 hb6);have HA:Hid (∀V,Zb F3 V->Bw V w.heap.size k v1 69 v2 (g:Int) (i:Int)∧P3 V w1.heap.size none∧S5 V w2.heap.size x1 y1 q1∧S5 V w3.heap.size x2 y2 q2):=fun V hb=>⟨H6.out.next (Qa (Qa (Qa (Qa hb2 hb4) hb5) hb6) hb),H3.out.next (Qa (Qa (Qa (Qa hb2 hb4) hb5) hb6) hb),s53.next hb,s52.next hb⟩
  clear c0' c1' c2' d0' d1' hb2 hb4 hb5 hb6 xb2 s51 s52 s53 hsz2 hsz3 u1 u2 u3 u4 u5 HU9 HL1 HL2 H3 H6;have xcA:=Below.refl F3.heap.size F3
  go_upto_region 7 with (go_at_call 128;with_reducible refine(HN1.out _).mono ?_;rintro e w4 ⟨rfl,hb7⟩)
  replace xcA:=Qa xcA hb7;have ⟨_,_,z51,z52⟩:=HA.out _ xcA;obtain⟨a0,a1,a2,a3,a4⟩:=z51.cells;obtain⟨b0,b1,b2,b3,b4⟩:=z52.cells
  go_upto_region 8 with (go_at_call 128;with_reducible refine(HN2.out _).mono ?_;rintro e w5 ⟨rfl,hb8⟩)
  replace xcA:=Qa xcA hb8;have ⟨_,_,z51',z52'⟩:=HA.out _ xcA;obtain⟨a0,a1,a2,a3,a4⟩:=z51'.cells;obtain⟨b0,b1,b2,b3,b4⟩:=z52'.cells;clear z51 z52 z51' z52' hb7 hb8
  go_upto_region 9 with (go_at_call 73;with_reducible refine(HOY.out _).mono ?_;rintro e w6 ⟨rfl,hb9⟩;replace xcA:=Qa xcA hb9;obtain⟨y6,h3,_,_⟩:=HA.out _ xcA;obtain⟨g0,g1,g2⟩:=h3.cells;have gf:=h3.fz)
  obtain⟨F,hFe⟩:=Ze (OC w6 w1.heap.size Y);have hp3:=h3.put Y;have hch3:=Ud w6 w1.heap.size Y;rw[hFe] at hp3 hch3;unfold OC at hFe
  try rw[hFe]
  clear hFe;have x6:Bw F w.heap.size k v1 69 v2 (g:Int) (i:Int):=y6.ch hch3 hl9;have xbF:Zb w F:=(Qa xb3 xcA).trans (hch3.below (by rintro b rfl;omega))
  clear h3 g0 g1 g2 gf y6 hch3 xcA xb3 hb9;have h3:=hp3;clear hp3;have HB9:Hid (∀V,Zb F V->Zb w V):=fun V hb=>Qa xbF hb
  have HK9:Hid (∀V,Zb F V->V.cell? ⟨w.heap.size,0,none⟩=some (.int .i64 k)∧V.cell? ⟨w1.heap.size,0,none⟩=some (.string (pA Y))∧V.cell? ⟨w1.heap.size,1,none⟩=some (.string (pB' Y))∧V.cell? ⟨w1.heap.size,2,none⟩=some (.bool (Option.isSome Y))):=fun V hb=>⟨(x6.next hb).c0,(h3.next hb).cells⟩
  have HQ:Hid (∀V x y q,Zb F V->(YY V (w.heap.size+1+1) x y q).cell? ⟨w.heap.size,0,none⟩=some (.int .i64 k)∧(YY V (w.heap.size+1+1) x y q).cell? ⟨w1.heap.size,0,none⟩=some (.string (pA Y))∧(YY V (w.heap.size+1+1) x y q).cell? ⟨w1.heap.size,1,none⟩=some (.string (pB' Y))∧(YY V (w.heap.size+1+1) x y q).cell? ⟨w1.heap.size,2,none⟩=some (.bool (Option.isSome Y))):=fun V x y q hb=>by
    obtain⟨q0,q1,q2,q3⟩:=HK9.out V hb;have n1:w.heap.size≠w.heap.size+1+1:=by omega
    have n2:w1.heap.size≠w.heap.size+1+1:=by omega
    exact⟨Qu x y q q0 n1,Qu x y q q1 n2,Qu x y q q2 n2,Qu x y q q3 n2⟩
  have HS9:Hid (∀V,Zb F V->S5 V (w.heap.size+1+1) ⟨#[]⟩ ⟨#[]⟩ none):=fun V hb=>(x6.next hb).s5
  obtain⟨e0,e1,e2,e3⟩:=HK9.out F (Below.refl _ _);have xc9:=(Below.refl F.heap.size F).drew;clear x6 h3 hl9
  go_region_held3 (fun V=>V.cell? ⟨w.heap.size,0,none⟩=some (.int .i64 k)∧V.cell? ⟨w1.heap.size,0,none⟩=some (.string (pA Y))∧V.cell? ⟨w1.heap.size,1,none⟩=some (.string (pB' Y))∧V.cell? ⟨w1.heap.size,2,none⟩=some (.bool (Option.isSome Y)))
    (first|with_reducible exact HK9.out _ xc9|with_reducible exact HQ9.out|with_reducible exact HK9.out _ (Below.refl _ _))
    (first
      | (go_at_call 222;first
          | (with_reducible refine(HD1.out _ (HB9.out _ xc9)).mono ?_)
          | (with_reducible refine(HD2.out _ (HB9.out _ xc9)).mono ?_)
         rintro e w2 ⟨rfl,hb1⟩;replace xc9:=Qa xc9 hb1;clear hb1)
      | (go_at_call 129;first
          | (with_reducible refine(HT1.out _).mono ?_)
          | (with_reducible refine(HT2.out _).mono ?_)
         rintro e w2 ⟨rfl,hb1⟩;replace xc9:=Qa xc9 hb1;clear hb1)
      | (go_at_call 70;with_reducible refine(HU.out _).mono ?_;rintro e w2 ⟨rfl,hb1⟩;replace xc9:=Qa xc9 hb1;clear hb1)
      | (go_at_call 73;with_reducible refine(HO.out _).mono ?_;rintro e w9 ⟨rfl,hb1⟩;replace xc9:=Qa xc9 hb1;clear hb1
         have s9:=HS9.out _ xc9;obtain⟨a0,a1,a2,a3,a4⟩:=s9.cells;have fz:=s9.fz;have HQ9:=Qc (HQ.out w9 r1 r2 Z xc9)))
  have hp:=s9.put r1 r2 Z;have hch:=Jq w9 (w.heap.size+1+1) r1 r2 Z;obtain⟨b0,b1,b2,b3,b4⟩:=hp.cells;go_wp2;refine bodyPost_ret (v:=snV r1 r2 Z) (by simp[results,Tryz.results76,go_sem,b0,b1,b2,b3,b4]) rfl ⟨rfl,?_⟩
  exact(HB9.out _ xc9).trans (hch.below (by rintro b rfl;omega))
structure SdP(w:World)(k:Int)(L:LB)(M:Nat->Nat->Option Nat)(D:LB)(V:Nat->BA)(Q:Nat->Prop)(v1 v2:Value):Prop where
 tb:Tb w
 e1 : ∀W h i,Zb w W->h<=40->(i+1)*2^h<=L.length->Zr 214 #[v1,bkV h i] W (lsE (clk k) L M h i)
 e2 : ∀W h i,Zb w W->h<=40->(i+1)*2^h<=L.length->(h=0->M h i=none->Q i)->Zr 216 #[v2,bkV h i] W (prE D V M h i)
 szL : ∀s∈L,s.size<=140737488351232
 szV : ∀i,Q i->(V i).size<2305843009213693952
 hM : ∀h i j,M h i=some j->j<D.length
 hD : ∀d∈D,d.size=clk k
 hL:L.length<=1099511627776
theorem Qe7{w:World}{k:Int}{L:LB}{M:Nat->Nat->Option Nat}{D:LB}{V:Nat->BA}{Q:Nat->Prop}{v1 v2:Value}(S:SdP w k L M D V Q v1 v2) : ∀(h i:Nat),h<=40->(i+1)*2^h<=L.length->Vis M Q h i -> ∀W,Zb w W ->
  Zr 76 #[wkV k v1 107 v2,bkV h i] W (snV (nd (clk k) L h i) (xd (clk k) M D V h i) (fp (clk k) L M D V h i)):=by
 have hc:=Qx k;have cut : ∀(h i j:Nat),h<=40->(i+1)*2^h<=L.length->M h i=some j -> ∀W,Zb w W->Zr 76 #[wkV k v1 107 v2,bkV h i] W (snV (nd (clk k) L h i) (xd (clk k) M D V h i) (fp (clk k) L M D V h i)):=fun h i j hh hi e W hb=>by
  rw[Qcx e,Qc4 e];refine block_cutP W k v1 v2 h i _ _ none (Qbi _) (fun W' hb' => ?_) (fun W' hb' => ?_)
  ·have:=S.e1 W' h i (Qa hb hb') hh hi
   rwa [lsE,e,Ir,if_pos rfl] at this
  ·have:=S.e2 W' h i (Qa hb hb') hh hi (fun _ h0=>by rw[e] at h0;cases h0)
   rwa [prE,e,Ir,if_pos rfl] at this
 intro h
 induction h with
 | zero =>
  intro i hh hi hv W hb
  cases e:M 0 i with
  | some j=>exact cut 0 i j hh hi e W hb
  | none =>
   have hq:=hv e;rw[Od e,Jx e,nd];have hiL:i<L.length:=Qaq hi;have hs:=S.szL _ (QI hiL);have hs2:=S.szV i hq;refine block_leafP W k v1 v2 0 i (S.tb.next hb) _ _ (by rw[Yk];omega) (by rw[Yk];omega) _ _ rfl rfl _ rfl (fun W' hb' => ?_) (fun W' hb' => ?_)
   ·have:=S.e1 W' 0 i (Qa hb hb') hh hi
    rwa [lsE,e,NF,if_neg (by simp),if_neg (by simp)] at this
   ·have:=S.e2 W' 0 i (Qa hb hb') hh hi (fun _ _=>hq)
    rwa [prE,e,NF,if_neg (by simp),if_neg (by simp)] at this
 | succ h ih =>
  intro i hh hi hv W hb
  cases e:M (h+1) i with
  | some j=>exact cut (h+1) i j hh hi e W hb
  | none =>
   obtain⟨vl,vr⟩:=hv e;obtain⟨i1,i2⟩:=Qdq hi;rw[OX e,Jy e,nd];have hiL:i<L.length:=Qaq hi;have hLL:=S.hL;have z1 : ∀a b,(nd (clk k) L a b).size<=32:=fun a b=>by rw[QD hc];exact hc
   have z2 : ∀a b,(xd (clk k) M D V a b).size<=32:=fun a b=>by rw[UR hc S.hM S.hD];exact hc
   refine block_nodeP W k v1 v2 (h+1) h i (2*i) (2*i+1) rfl hh rfl rfl (by omega) (S.tb.next hb) (nd (clk k) L h (2*i)) (xd (clk k) M D V h (2*i)) (nd (clk k) L h (2*i+1)) (xd (clk k) M D V h (2*i+1)) _ _ ⟨z1 _ _,z2 _ _,z1 _ _,z2 _ _⟩ _ _ rfl rfl _ _ rfl rfl _ _ _ rfl rfl rfl (fun W' hb' => ?_) (fun W' hb' => ?_) (fun W' hb'=>ih (2*i) (by omega) i1 vl W' (Qa hb hb')) (fun W' hb'=>ih (2*i+1) (by omega) i2 vr W' (Qa hb hb'))
   ·have:=S.e1 W' (h+1) i (Qa hb hb') hh hi
    rwa [lsE,e,NF,if_neg (by simp),if_pos (by omega)] at this
   ·have:=S.e2 W' (h+1) i (Qa hb hb') hh hi (fun h0=>by omega)
    rwa [prE,e,NF,if_neg (by simp),if_pos (by omega)] at this
theorem Qc2{w:World}{k:Int}{L:LB}{M:Nat->Nat->Option Nat}{D:LB}{V:Nat->BA}{Q:Nat->Prop}{v1 v2:Value}(S:SdP w k L M D V Q v1 v2)(n:Nat)(hn:n<=L.length)(B:List (Nat×Nat))(hB:Cv.dnL 41 0 n=B)(hv : ∀b∈B,Vis M Q b.1 b.2)(T:Pq)(hT:wk (clk k) n L M D V B=T) :
  Zr 35 #[wkV k v1 107 v2,.int .u64 (n:Int)] w (pv T):=by
 have hc:=Qx k;have h40:n<=2^40:=Lm hn S.hL;have hin:=JG n h40;rw[hB] at hin;refine all_any w S.tb k v1 _ v2 n h40 B hB (fun b=>nd (clk k) L b.1 b.2) (fun b=>xd (clk k) M D V b.1 b.2) (fun b=>by rw[QD hc];exact hc) (fun b=>by rw[UR hc S.hM S.hD];exact hc) (fp (clk k) L M D V) (fun W b hb hbm => ?_) T hT
 have hb40:b.1<=40:=Cv.pw40 (Lm (by have:=Lo (Pl.pw b.1) (show 1<=b.2+1 by omega);rw[LP] at this;exact this) (Lm (hin b hbm) h40))
 exact Qe7 S b.1 b.2 hb40 (Lm (hin b hbm) hn) (hv b hbm) W hb
structure SdL(w:World)(k:Int)(L:LB)(M:Nat->Nat->Option Nat)(D:LB)(V:Nat->BA)(Q:Nat->Prop)(v1 v2:Value):Prop where
 tb:Tb w
 e1 : ∀W h i,Zb w W->h<=40->(i+1)*2^h<=L.length->Zr 214 #[v1,bkV h i] W (lsE (clk k) L M h i)
 e2 : ∀W h i,Zb w W->h<=40->(i+1)*2^h<=L.length->(h=0->M h i=none->Q i)->Zr 214 #[v2,bkV h i] W (prE D V M h i)
 szL : ∀s∈L,s.size<=140737488351232
 szV : ∀i,Q i->(V i).size<2305843009213693952
 hM : ∀h i j,M h i=some j->j<D.length
 hD : ∀d∈D,d.size=clk k
 hL:L.length<=1099511627776
theorem Qe6{w:World}{k:Int}{L:LB}{M:Nat->Nat->Option Nat}{D:LB}{V:Nat->BA}{Q:Nat->Prop}{v1 v2:Value}(S:SdL w k L M D V Q v1 v2) : ∀(h i:Nat),h<=40->(i+1)*2^h<=L.length->Vis M Q h i -> ∀W,Zb w W ->
  Zr 76 #[wkV k v1 69 v2,bkV h i] W (snV (nd (clk k) L h i) (xd (clk k) M D V h i) (fp (clk k) L M D V h i)):=by
 have hc:=Qx k;have cut : ∀(h i j:Nat),h<=40->(i+1)*2^h<=L.length->M h i=some j -> ∀W,Zb w W->Zr 76 #[wkV k v1 69 v2,bkV h i] W (snV (nd (clk k) L h i) (xd (clk k) M D V h i) (fp (clk k) L M D V h i)):=fun h i j hh hi e W hb=>by
  rw[Qcx e,Qc4 e];refine block_cutL W k v1 v2 h i _ _ none (Qbi _) (fun W' hb' => ?_) (fun W' hb' => ?_)
  ·have:=S.e1 W' h i (Qa hb hb') hh hi
   rwa [lsE,e,Ir,if_pos rfl] at this
  ·have:=S.e2 W' h i (Qa hb hb') hh hi (fun _ h0=>by rw[e] at h0;cases h0)
   rwa [prE,e,Ir,if_pos rfl] at this
 intro h
 induction h with
 | zero =>
  intro i hh hi hv W hb
  cases e:M 0 i with
  | some j=>exact cut 0 i j hh hi e W hb
  | none =>
   have hq:=hv e;rw[Od e,Jx e,nd];have hiL:i<L.length:=Qaq hi;have hs:=S.szL _ (QI hiL);have hs2:=S.szV i hq;refine block_leafL W k v1 v2 0 i (S.tb.next hb) _ _ (by rw[Yk];omega) (by rw[Yk];omega) _ _ rfl rfl _ rfl (fun W' hb' => ?_) (fun W' hb' => ?_)
   ·have:=S.e1 W' 0 i (Qa hb hb') hh hi
    rwa [lsE,e,NF,if_neg (by simp),if_neg (by simp)] at this
   ·have:=S.e2 W' 0 i (Qa hb hb') hh hi (fun _ _=>hq)
    rwa [prE,e,NF,if_neg (by simp),if_neg (by simp)] at this
 | succ h ih =>
  intro i hh hi hv W hb
  cases e:M (h+1) i with
  | some j=>exact cut (h+1) i j hh hi e W hb
  | none =>
   obtain⟨vl,vr⟩:=hv e;obtain⟨i1,i2⟩:=Qdq hi;rw[OX e,Jy e,nd];have hiL:i<L.length:=Qaq hi;have hLL:=S.hL;have z1 : ∀a b,(nd (clk k) L a b).size<=32:=fun a b=>by rw[QD hc];exact hc
   have z2 : ∀a b,(xd (clk k) M D V a b).size<=32:=fun a b=>by rw[UR hc S.hM S.hD];exact hc
   refine block_nodeL W k v1 v2 (h+1) h i (2*i) (2*i+1) rfl hh rfl rfl (by omega) (S.tb.next hb) (nd (clk k) L h (2*i)) (xd (clk k) M D V h (2*i)) (nd (clk k) L h (2*i+1)) (xd (clk k) M D V h (2*i+1)) _ _ ⟨z1 _ _,z2 _ _,z1 _ _,z2 _ _⟩ _ _ rfl rfl _ _ rfl rfl _ _ _ rfl rfl rfl (fun W' hb' => ?_) (fun W' hb' => ?_) (fun W' hb'=>ih (2*i) (by omega) i1 vl W' (Qa hb hb')) (fun W' hb'=>ih (2*i+1) (by omega) i2 vr W' (Qa hb hb'))
   ·have:=S.e1 W' (h+1) i (Qa hb hb') hh hi
    rwa [lsE,e,NF,if_neg (by simp),if_pos (by omega)] at this
   ·have:=S.e2 W' (h+1) i (Qa hb hb') hh hi (fun h0=>by omega)
    rwa [prE,e,NF,if_neg (by simp),if_pos (by omega)] at this
theorem QhX{w:World}{k:Int}{L:LB}{M:Nat->Nat->Option Nat}{D:LB}{V:Nat->BA}{Q:Nat->Prop}{v1 v2:Value}(S:SdL w k L M D V Q v1 v2)(n:Nat)(hn:n<=L.length)(B:List (Nat×Nat))(hB:Cv.dnL 41 0 n=B)(hv : ∀b∈B,Vis M Q b.1 b.2)(T:Pq)(hT:wk (clk k) n L M D V B=T) :
  Zr 35 #[wkV k v1 69 v2,.int .u64 (n:Int)] w (pv T):=by
 have hc:=Qx k;have h40:n<=2^40:=Lm hn S.hL;have hin:=JG n h40;rw[hB] at hin;refine all_any w S.tb k v1 _ v2 n h40 B hB (fun b=>nd (clk k) L b.1 b.2) (fun b=>xd (clk k) M D V b.1 b.2) (fun b=>by rw[QD hc];exact hc) (fun b=>by rw[UR hc S.hM S.hD];exact hc) (fp (clk k) L M D V) (fun W b hb hbm => ?_) T hT
 have hb40:b.1<=40:=Cv.pw40 (Lm (by have:=Lo (Pl.pw b.1) (show 1<=b.2+1 by omega);rw[LP] at this;exact this) (Lm (hin b hbm) h40))
 exact Qe6 S b.1 b.2 hb40 (Lm (hin b hbm) hn) (hv b hbm) W hb
end Go.Proofs.YtdocjikpcbmcgaaGreatDoor
