/- Own work. -/
import Derived.Test.YtdocjikpcbmcgaaGreatDoorQn30
set_option maxRecDepth 100000
set_option maxHeartbeats 4000000
namespace Go.Proofs.YtdocjikpcbmcgaaGreatDoor
open Go.RowKit
attribute [local go_sem ↓] Go.wp_at_zero Go.wp_at_succ
open Go.Proofs.Tryz
abbrev wkV(k:Int)(v1:Value)(T2:Nat)(v2:Value):Value := .agg #[.int .i64 k,.iface 69 v1,.iface T2 v2]
abbrev snV(x y:BA)(q:Pq):Value := .agg #[.string x,.string y,.string (pA q),.string (pB' q),.bool q.isSome]
abbrev bkV(h i:Nat):Value := .agg #[.int .i64 (h:Int),.int .u64 (i:Int)]
def S5(w:World)(g:Nat)(x y:BA)(q:Pq):Prop:=w.heap[g]? = some (.cells #[.string x,.string y,.string (pA q),.string (pB' q),.bool q.isSome] 120 (0,0))
section
variable {w W:World} {g:Nat} {x y:BA} {q:Pq}
theorem S5.cells(h:S5 w g x y q):w.cell? ⟨g,0,none⟩=some (.string x)∧w.cell? ⟨g,1,none⟩=some (.string y)∧w.cell? ⟨g,2,none⟩=some (.string (pA q))∧w.cell? ⟨g,3,none⟩=some (.string (pB' q))∧w.cell? ⟨g,4,none⟩=some (.bool q.isSome):=by
 refine⟨?_,?_,?_,?_,?_⟩
 ·rw[cell_of_row w g 0 _ _ (0,0) h];rfl
 ·rw[cell_of_row w g 1 _ _ (0,0) h];rfl
 ·rw[cell_of_row w g 2 _ _ (0,0) h];rfl
 ·rw[cell_of_row w g 3 _ _ (0,0) h];rfl
 ·rw[cell_of_row w g 4 _ _ (0,0) h];rfl
theorem S5.fz(h:S5 w g x y q) : ∀j,w.frozen? ⟨g,j,none⟩=false:=fun j=>frozen_of_row w g j _ _ h
theorem S5.lt(h:S5 w g x y q):g<w.heap.size:=(Array.getElem?_eq_some_iff.1 h).1
theorem S5.next(h:S5 w g x y q)(hb:Zb w W):S5 W g x y q:=(hb.block g h.lt).trans h
theorem Qgj(w:World)(x y:BA)(q:Pq) : ∃W,w.alloc (.cells #[.string x,.string y,.string (pA q),.string (pB' q),.bool q.isSome] 120)=W∧S5 W w.heap.size x y q∧Zb w W∧W.heap.size=w.heap.size+1 :=
 ⟨_,rfl,Lu w _,bal (Lb _ _) _,LA ..⟩
abbrev Oh(w:World)(g:Nat)(x y:BA)(q:Pq):World:=((((w.setCell ⟨g,0,none⟩ (.string x)).setCell ⟨g,1,none⟩ (.string y)).setCell ⟨g,2,none⟩ (.string (pA q))).setCell ⟨g,3,none⟩ (.string (pB' q))).setCell ⟨g,4,none⟩ (.bool q.isSome)
theorem S5.put(h:S5 w g x y q)(x' y':BA)(q':Pq):S5 (Oh w g x' y' q') g x' y' q':=LI _ g 4 _ _ _ (LI _ g 3 _ _ _ (LI _ g 2 _ _ _ (LI _ g 1 _ _ _ (LI w g 0 _ _ _ h))))
theorem Qbg(w:World)(g:Nat)(x y:BA)(q:Pq):ChT (fun b=>b=g) w (Oh w g x y q):=(((((ChT.refl (fun b=>b=g) w).set g 0 _ rfl).set g 1 _ rfl).set g 2 _ rfl).set g 3 _ rfl).set g 4 _ rfl
theorem Ya{V:World}{v:Value}{b j:Nat}(x' y':BA)(q':Pq)(h:V.cell? ⟨b,j,none⟩=some v)(hb:b≠g):(Oh V g x' y' q').cell? ⟨b,j,none⟩=some v:=by
 have hc:=Qbg V g x' y' q';generalize Oh V g x' y' q'=Z at *;exact(LC (hc.block b hb)).trans h
end
structure Bw(W:World)(s0:Nat)(k:Int)(v1:Value)(T2:Nat)(v2:Value)(h i:Int):Prop where
 c0:W.cell? ⟨s0,0,none⟩=some (.int .i64 k)
 c1:W.cell? ⟨s0,1,none⟩=some (.iface 69 v1)
 c2:W.cell? ⟨s0,2,none⟩=some (.iface T2 v2)
 d0:W.cell? ⟨s0+1,0,none⟩=some (.int .i64 h)
 d1:W.cell? ⟨s0+1,1,none⟩=some (.int .u64 i)
 s5:S5 W (s0+1+1) ⟨#[]⟩ ⟨#[]⟩ none
theorem Bw.next{W Z:World}{s0:Nat}{k:Int}{v1:Value}{T2:Nat}{v2:Value}{h i:Int}(b:Bw W s0 k v1 T2 v2 h i)(hb:Zb W Z):Bw Z s0 k v1 T2 v2 h i:=by
 have l0:s0<W.heap.size:=Lh W _ b.c0;have l1:s0+1<W.heap.size:=Lh W _ b.d0;exact⟨(LC (hb.block s0 l0)).trans b.c0,(LC (hb.block s0 l0)).trans b.c1,(LC (hb.block s0 l0)).trans b.c2,(LC (hb.block (s0+1) l1)).trans b.d0,(LC (hb.block (s0+1) l1)).trans b.d1,b.s5.next hb⟩
theorem Bw.ch{W Z:World}{s0 g:Nat}{k:Int}{v1:Value}{T2:Nat}{v2:Value}{h i:Int}(b:Bw W s0 k v1 T2 v2 h i)(hc:ChT (fun b=>b=g) W Z)(hg:s0+1+1<g):Bw Z s0 k v1 T2 v2 h i:=by
 have n0:s0≠g:=by omega
 have n1:s0+1≠g:=by omega
 exact⟨(LC (hc.block s0 n0)).trans b.c0,(LC (hc.block s0 n0)).trans b.c1,(LC (hc.block s0 n0)).trans b.c2,(LC (hc.block (s0+1) n1)).trans b.d0,(LC (hc.block (s0+1) n1)).trans b.d1,(hc.block (s0+1+1) (by omega)).trans b.s5⟩
theorem Qbz(w:World)(k:Int)(v1:Value)(T2:Nat)(v2:Value)(h i:Int) : ∃W,((w.alloc (.cells #[.int .i64 k,.iface 69 v1,.iface T2 v2] 73)).alloc (.cells #[.int .i64 h,.int .u64 i] 83)).alloc (.cells #[.string ⟨#[]⟩,.string ⟨#[]⟩,.string ⟨#[]⟩,.string ⟨#[]⟩,.bool false] 120)=W∧Zb w W∧Bw W w.heap.size k v1 T2 v2 h i:=by
 obtain⟨W0,xB,xC,⟨c0,c1,c2⟩,⟨d0,d1⟩,hz⟩:=Qek w (.int .i64 k) (.iface 69 v1) (.iface T2 v2) 73 h i;rw[xB];have xA:=bal (Lb W0.heap.size W0) (.cells #[.string ⟨#[]⟩,.string ⟨#[]⟩,.string ⟨#[]⟩,.string ⟨#[]⟩,.bool false] 120);have h5:=Lu W0 (.cells #[.string ⟨#[]⟩,.string ⟨#[]⟩,.string ⟨#[]⟩,.string ⟨#[]⟩,.bool false] 120);rw[hz] at h5;exact⟨_,rfl,Qa xC xA,(LC (xA.block w.heap.size (by omega))).trans c0,(LC (xA.block w.heap.size (by omega))).trans c1,(LC (xA.block w.heap.size (by omega))).trans c2,(LC (xA.block (w.heap.size+1) (by omega))).trans d0,(LC (xA.block (w.heap.size+1) (by omega))).trans d1,h5⟩
theorem Qce(w:World) : ∃W,w.alloc (.cells #[.string ⟨#[]⟩,.string ⟨#[]⟩,.bool false] 59)=W∧P3 W w.heap.size none∧Zb w W :=
 ⟨_,rfl,Lu w _,bal (Lb _ _) _⟩
theorem block_cutP (w:World) (k:Int) (v1 v2:Value) (h i:Nat) (d1 d2:BA) (U:Pq) (hU:un ⟨#[]⟩ ⟨#[]⟩=U)
    (HE1:Hr w 214 #[v1,bkV h i] (ba d1))
    (HE2:Hr w 216 #[v2,bkV h i] (ba d2)) :
    Zr 76 #[wkV k v1 107 v2,bkV h i] w (snV d1 d2 U):=by
  have HD1:Hr w 223 #[.string d1,.int .i64 k] (.string d1):=fun W _=>QcL W k d1
  have HD2:Hr w 223 #[.string d2,.int .i64 k] (.string d2):=fun W _=>QcL W k d2
  have HT1:Hid (∀W,Zr 129 #[ba d1] W (.string ⟨#[]⟩)):=fun W=>Qhj W d1
  have HT2:Hid (∀W,Zr 129 #[ba d2] W (.string ⟨#[]⟩)):=fun W=>Qhj W d2
  have HU:Hid (∀W,Zr 70 #[.string ⟨#[]⟩,.string ⟨#[]⟩] W (pv U)):=fun W=>Oc W _ _ U hU
  have HO:Hid (∀W,Zr 73 #[pv U,.agg #[.string ⟨#[]⟩,.string ⟨#[]⟩,.bool false]] W (pv U)):=fun W=>Qb9 W U none U (by cases U <;> rfl)
  obtain⟨W0,hW0,hb0,hB⟩:=Qbz w k v1 107 v2 (h:Int) (i:Int);have HX:Hid (∀V,Zb W0 V->V.cell? ⟨w.heap.size,1,none⟩=some (.iface 69 v1)∧V.cell? ⟨w.heap.size,2,none⟩=some (.iface 107 v2)∧V.cell? ⟨w.heap.size+1,0,none⟩=some (.int .i64 (h:Int))∧V.cell? ⟨w.heap.size+1,1,none⟩=some (.int .u64 (i:Int))):=fun V hb=>⟨(hB.next hb).c1,(hB.next hb).c2,(hB.next hb).d0,(hB.next hb).d1⟩
  have HB:=Qe hB;have xc:=(Lb W0.heap.size W0).drew;obtain⟨k1,k2,k3,k4⟩:=HX.out W0 (Lb _ _);clear hB hU
  go_enter func76,ntmps76
  go_upto_region 1 with (fail)
  try rw[hW0]
  clear hW0
  go_region_held3 (fun V=>V.cell? ⟨w.heap.size,1,none⟩=some (.iface 69 v1)∧V.cell? ⟨w.heap.size,2,none⟩=some (.iface 107 v2)∧V.cell? ⟨w.heap.size+1,0,none⟩=some (.int .i64 (h:Int))∧V.cell? ⟨w.heap.size+1,1,none⟩=some (.int .u64 (i:Int)))
    (first|with_reducible exact HX.out _ xc|with_reducible exact HX.out _ (Lb _ _))
    (first
      | (go_at_call 214;with_reducible refine(HE1.out _ (Qa hb0 xc)).mono ?_;rintro e w1 ⟨rfl,hb1⟩;replace xc:=Qa xc hb1;clear hb1)
      | (go_at_call 216;with_reducible refine(HE2.out _ (Qa hb0 xc)).mono ?_;rintro e w1 ⟨rfl,hb1⟩;replace xc:=Qa xc hb1;clear hb1))
  have x5:=HB.out.next xc;have xb:=Qa hb0 xc;clear k1 k2 k3 k4 HX
  go_upto_region 3 with (fail)
  obtain⟨F,hFe,h3,hb3⟩:=Qce w1
  try rw[hFe]
  clear hFe;have x6:=x5.next hb3;have xbF:=Qa xb hb3;have hl9:w.heap.size+1+1<w1.heap.size:=x5.s5.lt;have HB9:Hid (∀V,Zb F V->Zb w V):=fun V hb=>Qa xbF hb
  have HK9:Hid (∀V,Zb F V->V.cell? ⟨w.heap.size,0,none⟩=some (.int .i64 k)∧V.cell? ⟨w1.heap.size,0,none⟩=some (.string (⟨#[]⟩))∧V.cell? ⟨w1.heap.size,1,none⟩=some (.string (⟨#[]⟩))∧V.cell? ⟨w1.heap.size,2,none⟩=some (.bool (false))):=fun V hb=>⟨(x6.next hb).c0,(h3.next hb).cells⟩
  have HQ:Hid (∀V x y q,Zb F V->(Oh V (w.heap.size+1+1) x y q).cell? ⟨w.heap.size,0,none⟩=some (.int .i64 k)∧(Oh V (w.heap.size+1+1) x y q).cell? ⟨w1.heap.size,0,none⟩=some (.string (⟨#[]⟩))∧(Oh V (w.heap.size+1+1) x y q).cell? ⟨w1.heap.size,1,none⟩=some (.string (⟨#[]⟩))∧(Oh V (w.heap.size+1+1) x y q).cell? ⟨w1.heap.size,2,none⟩=some (.bool (false))):=fun V x y q hb=>by
    obtain⟨q0,q1,q2,q3⟩:=HK9.out V hb;have n1:w.heap.size≠w.heap.size+1+1:=by omega
    have n2:w1.heap.size≠w.heap.size+1+1:=by omega
    exact⟨Ya x y q q0 n1,Ya x y q q1 n2,Ya x y q q2 n2,Ya x y q q3 n2⟩
  have HS9:Hid (∀V,Zb F V->S5 V (w.heap.size+1+1) ⟨#[]⟩ ⟨#[]⟩ none):=fun V hb=>(x6.next hb).s5
  obtain⟨e0,e1,e2,e3⟩:=HK9.out F (Lb _ _);have xc9:=(Lb F.heap.size F).drew;clear x5 x6 xb hb3 HE1 HE2 HB h3 xc hl9
  go_upto_region 9 with (fail)
  go_region_held3 (fun V=>V.cell? ⟨w.heap.size,0,none⟩=some (.int .i64 k)∧V.cell? ⟨w1.heap.size,0,none⟩=some (.string (⟨#[]⟩))∧V.cell? ⟨w1.heap.size,1,none⟩=some (.string (⟨#[]⟩))∧V.cell? ⟨w1.heap.size,2,none⟩=some (.bool (false)))
    (first|with_reducible exact HK9.out _ xc9|with_reducible exact HQ9.out|with_reducible exact HK9.out _ (Lb _ _))
    (first
      | (go_at_call 223;first
          | (with_reducible refine(HD1.out _ (HB9.out _ xc9)).mono ?_)
          | (with_reducible refine(HD2.out _ (HB9.out _ xc9)).mono ?_)
         rintro e w2 ⟨rfl,hb1⟩;replace xc9:=Qa xc9 hb1;clear hb1)
      | (go_at_call 129;first
          | (with_reducible refine(HT1.out _).mono ?_)
          | (with_reducible refine(HT2.out _).mono ?_)
         rintro e w2 ⟨rfl,hb1⟩;replace xc9:=Qa xc9 hb1;clear hb1)
      | (go_at_call 70;with_reducible refine(HU.out _).mono ?_;rintro e w2 ⟨rfl,hb1⟩;replace xc9:=Qa xc9 hb1;clear hb1)
      | (go_at_call 73;with_reducible refine(HO.out _).mono ?_;rintro e w9 ⟨rfl,hb1⟩;replace xc9:=Qa xc9 hb1;clear hb1
         have s9:=HS9.out _ xc9;obtain⟨a0,a1,a2,a3,a4⟩:=s9.cells;have fz:=s9.fz;have HQ9:=Qe (HQ.out w9 d1 d2 U xc9)))
  have hp:=s9.put d1 d2 U;have hch:=Qbg w9 (w.heap.size+1+1) d1 d2 U;obtain⟨b0,b1,b2,b3,b4⟩:=hp.cells;go_wp2;refine Lp (v:=snV d1 d2 U) (by simp[results,results76,go_sem,b0,b1,b2,b3,b4]) rfl ⟨rfl,?_⟩
  exact(HB9.out _ xc9).trans (hch.below (by rintro b rfl;omega))
theorem block_leafP (w:World) (k:Int) (v1 v2:Value) (h i:Nat) (ht:Tb w) (t1 t2:BA) (hs1:t1.size<4611686018427387904) (hs2:t2.size<4611686018427387904) (r1 r2:BA) (hr1:dg (clk k) t1=r1) (hr2:dg (clk k) t2=r2) (U:Pq) (hU:un t1 t2=U)
    (HE1:Hr w 214 #[v1,bkV h i] (wo t1))
    (HE2:Hr w 216 #[v2,bkV h i] (wo t2)) :
    Zr 76 #[wkV k v1 107 v2,bkV h i] w (snV r1 r2 U):=by
  have HD1:Hr w 222 #[.string t1,.int .i64 k] (.string r1):=fun W hb=>Oe W (ht.next hb) k t1 hs1 r1 hr1
  have HD2:Hr w 222 #[.string t2,.int .i64 k] (.string r2):=fun W hb=>Oe W (ht.next hb) k t2 hs2 r2 hr2
  have HT1:Hid (∀W,Zr 129 #[wo t1] W (.string t1)):=fun W=>Qbq W t1
  have HT2:Hid (∀W,Zr 129 #[wo t2] W (.string t2)):=fun W=>Qbq W t2
  have HU:Hid (∀W,Zr 70 #[.string t1,.string t2] W (pv U)):=fun W=>Oc W _ _ U hU
  have HO:Hid (∀W,Zr 73 #[pv U,.agg #[.string ⟨#[]⟩,.string ⟨#[]⟩,.bool false]] W (pv U)):=fun W=>Qb9 W U none U (by cases U <;> rfl)
  obtain⟨W0,hW0,hb0,hB⟩:=Qbz w k v1 107 v2 (h:Int) (i:Int);have HX:Hid (∀V,Zb W0 V->V.cell? ⟨w.heap.size,1,none⟩=some (.iface 69 v1)∧V.cell? ⟨w.heap.size,2,none⟩=some (.iface 107 v2)∧V.cell? ⟨w.heap.size+1,0,none⟩=some (.int .i64 (h:Int))∧V.cell? ⟨w.heap.size+1,1,none⟩=some (.int .u64 (i:Int))):=fun V hb=>⟨(hB.next hb).c1,(hB.next hb).c2,(hB.next hb).d0,(hB.next hb).d1⟩
  have HB:=Qe hB;have xc:=(Lb W0.heap.size W0).drew;obtain⟨k1,k2,k3,k4⟩:=HX.out W0 (Lb _ _);clear hB ht hs1 hs2 hr1 hr2 hU
  go_enter func76,ntmps76
  go_upto_region 1 with (fail)
  try rw[hW0]
  clear hW0
  go_region_held3 (fun V=>V.cell? ⟨w.heap.size,1,none⟩=some (.iface 69 v1)∧V.cell? ⟨w.heap.size,2,none⟩=some (.iface 107 v2)∧V.cell? ⟨w.heap.size+1,0,none⟩=some (.int .i64 (h:Int))∧V.cell? ⟨w.heap.size+1,1,none⟩=some (.int .u64 (i:Int)))
    (first|with_reducible exact HX.out _ xc|with_reducible exact HX.out _ (Lb _ _))
    (first
      | (go_at_call 214;with_reducible refine(HE1.out _ (Qa hb0 xc)).mono ?_;rintro e w1 ⟨rfl,hb1⟩;replace xc:=Qa xc hb1;clear hb1)
      | (go_at_call 216;with_reducible refine(HE2.out _ (Qa hb0 xc)).mono ?_;rintro e w1 ⟨rfl,hb1⟩;replace xc:=Qa xc hb1;clear hb1))
  have x5:=HB.out.next xc;have xb:=Qa hb0 xc;clear k1 k2 k3 k4 HX
  go_upto_region 3 with (fail)
  obtain⟨F,hFe,h3,hb3⟩:=Qce w1
  try rw[hFe]
  clear hFe;have x6:=x5.next hb3;have xbF:=Qa xb hb3;have hl9:w.heap.size+1+1<w1.heap.size:=x5.s5.lt;have HB9:Hid (∀V,Zb F V->Zb w V):=fun V hb=>Qa xbF hb
  have HK9:Hid (∀V,Zb F V->V.cell? ⟨w.heap.size,0,none⟩=some (.int .i64 k)∧V.cell? ⟨w1.heap.size,0,none⟩=some (.string (⟨#[]⟩))∧V.cell? ⟨w1.heap.size,1,none⟩=some (.string (⟨#[]⟩))∧V.cell? ⟨w1.heap.size,2,none⟩=some (.bool (false))):=fun V hb=>⟨(x6.next hb).c0,(h3.next hb).cells⟩
  have HQ:Hid (∀V x y q,Zb F V->(Oh V (w.heap.size+1+1) x y q).cell? ⟨w.heap.size,0,none⟩=some (.int .i64 k)∧(Oh V (w.heap.size+1+1) x y q).cell? ⟨w1.heap.size,0,none⟩=some (.string (⟨#[]⟩))∧(Oh V (w.heap.size+1+1) x y q).cell? ⟨w1.heap.size,1,none⟩=some (.string (⟨#[]⟩))∧(Oh V (w.heap.size+1+1) x y q).cell? ⟨w1.heap.size,2,none⟩=some (.bool (false))):=fun V x y q hb=>by
    obtain⟨q0,q1,q2,q3⟩:=HK9.out V hb;have n1:w.heap.size≠w.heap.size+1+1:=by omega
    have n2:w1.heap.size≠w.heap.size+1+1:=by omega
    exact⟨Ya x y q q0 n1,Ya x y q q1 n2,Ya x y q q2 n2,Ya x y q q3 n2⟩
  have HS9:Hid (∀V,Zb F V->S5 V (w.heap.size+1+1) ⟨#[]⟩ ⟨#[]⟩ none):=fun V hb=>(x6.next hb).s5
  obtain⟨e0,e1,e2,e3⟩:=HK9.out F (Lb _ _);have xc9:=(Lb F.heap.size F).drew;clear x5 x6 xb hb3 HE1 HE2 HB h3 xc hl9
  go_upto_region 9 with (fail)
  go_region_held3 (fun V=>V.cell? ⟨w.heap.size,0,none⟩=some (.int .i64 k)∧V.cell? ⟨w1.heap.size,0,none⟩=some (.string (⟨#[]⟩))∧V.cell? ⟨w1.heap.size,1,none⟩=some (.string (⟨#[]⟩))∧V.cell? ⟨w1.heap.size,2,none⟩=some (.bool (false)))
    (first|with_reducible exact HK9.out _ xc9|with_reducible exact HQ9.out|with_reducible exact HK9.out _ (Lb _ _))
    (first
      | (go_at_call 222;first
          | (with_reducible refine(HD1.out _ (HB9.out _ xc9)).mono ?_)
          | (with_reducible refine(HD2.out _ (HB9.out _ xc9)).mono ?_)
         rintro e w2 ⟨rfl,hb1⟩;replace xc9:=Qa xc9 hb1;clear hb1)
      | (go_at_call 129;first
          | (with_reducible refine(HT1.out _).mono ?_)
          | (with_reducible refine(HT2.out _).mono ?_)
         rintro e w2 ⟨rfl,hb1⟩;replace xc9:=Qa xc9 hb1;clear hb1)
      | (go_at_call 70;with_reducible refine(HU.out _).mono ?_;rintro e w2 ⟨rfl,hb1⟩;replace xc9:=Qa xc9 hb1;clear hb1)
      | (go_at_call 73;with_reducible refine(HO.out _).mono ?_;rintro e w9 ⟨rfl,hb1⟩;replace xc9:=Qa xc9 hb1;clear hb1
         have s9:=HS9.out _ xc9;obtain⟨a0,a1,a2,a3,a4⟩:=s9.cells;have fz:=s9.fz;have HQ9:=Qe (HQ.out w9 r1 r2 U xc9)))
  have hp:=s9.put r1 r2 U;have hch:=Qbg w9 (w.heap.size+1+1) r1 r2 U;obtain⟨b0,b1,b2,b3,b4⟩:=hp.cells;go_wp2;refine Lp (v:=snV r1 r2 U) (by simp[results,results76,go_sem,b0,b1,b2,b3,b4]) rfl ⟨rfl,?_⟩
  exact(HB9.out _ xc9).trans (hch.below (by rintro b rfl;omega))
theorem block_nodeP (w:World) (k:Int) (v1 v2:Value) (g h i j m:Nat) (hg:g=h+1) (hh:g<=40) (hj:j=2*i) (hm:m=j+1) (hi:i<1099511627776) (ht:Tb w)
    (x1 y1 x2 y2:BA) (q1 q2:Pq) (hs:x1.size<=32∧y1.size<=32∧x2.size<=32∧y2.size<=32) (t1 t2:BA) (ht1:QH x1 x2=t1) (ht2:QH y1 y2=t2) (r1 r2:BA) (hr1:dg (clk k) t1=r1) (hr2:dg (clk k) t2=r2) (U Y Z:Pq) (hU:un t1 t2=U) (hY:q1.or q2=Y) (hZ:U.or Y=Z)
    (HE1:Hid (∀W,Zb w W->Calls prog 214 #[v1,bkV g i] W fun e w'=>e = .returned .nilIface∧Zb W w'))
    (HE2:Hid (∀W,Zb w W->Calls prog 216 #[v2,bkV g i] W fun e w'=>e = .returned .nilIface∧Zb W w'))
    (HL1:Hr w 76 #[wkV k v1 107 v2,bkV h j] (snV x1 y1 q1))
    (HL2:Hr w 76 #[wkV k v1 107 v2,bkV h m] (snV x2 y2 q2)) :
    Zr 76 #[wkV k v1 107 v2,bkV g i] w (snV r1 r2 Z):=by
  have hs1:t1.size<4611686018427387904:=by rw[<-ht1,Yw];omega
  have hs2:t2.size<4611686018427387904:=by rw[<-ht2,Yw];omega
  have HD1:Hr w 222 #[.string t1,.int .i64 k] (.string r1):=fun W hb=>Oe W (ht.next hb) k t1 hs1 r1 hr1
  have HD2:Hr w 222 #[.string t2,.int .i64 k] (.string r2):=fun W hb=>Oe W (ht.next hb) k t2 hs2 r2 hr2
  have HT1:Hid (∀W,Zr 129 #[wo t1] W (.string t1)):=fun W=>Qbq W t1
  have HT2:Hid (∀W,Zr 129 #[wo t2] W (.string t2)):=fun W=>Qbq W t2
  have HU:Hid (∀W,Zr 70 #[.string t1,.string t2] W (pv U)):=fun W=>Oc W _ _ U hU
  have HO:Hid (∀W,Zr 73 #[pv U,pv Y] W (pv Z)):=fun W=>Qb9 W U Y Z hZ
  have HN1:Hid (∀W,Zr 128 #[.string x1,.string x2] W (.string t1)):=fun W=>by have:=Qau W x1 x2 (by omega) (by omega);rwa [ht1] at this
  have HN2:Hid (∀W,Zr 128 #[.string y1,.string y2] W (.string t2)):=fun W=>by have:=Qau W y1 y2 (by omega) (by omega);rwa [ht2] at this
  have HOY:Hid (∀W,Zr 73 #[pv q1,pv q2] W (pv Y)):=fun W=>Qb9 W q1 q2 Y hY
  obtain⟨W0,hW0,hb0,hB⟩:=Qbz w k v1 107 v2 (g:Int) (i:Int);have HX:Hid (∀V,Zb W0 V->V.cell? ⟨w.heap.size,1,none⟩=some (.iface 69 v1)∧V.cell? ⟨w.heap.size,2,none⟩=some (.iface 107 v2)∧V.cell? ⟨w.heap.size+1,0,none⟩=some (.int .i64 (g:Int))∧V.cell? ⟨w.heap.size+1,1,none⟩=some (.int .u64 (i:Int))):=fun V hb=>⟨(hB.next hb).c1,(hB.next hb).c2,(hB.next hb).d0,(hB.next hb).d1⟩
  have HB:=Qe hB;have xc:=(Lb W0.heap.size W0).drew;obtain⟨k1,k2,k3,k4⟩:=HX.out W0 (Lb _ _);have u1:(g:Int) - 1=(h:Int):=by omega
  have u2:2*(i:Int)=(j:Int):=by omega
  have u3:(j:Int)+1=(m:Int):=by omega
  have u4:(j:Int)<=2199023255552:=by omega
  have u5:(g:Int)<=40:=by omega
  have HU9:=Qe (Lo u1 (Lo u2 (Lo u3 (Lo u4 u5))));clear hB ht hs1 hs2 hr1 hr2 hU hY hZ ht1 ht2 hs hg hh hj hi hm u1 u2 u3 u4 u5
  go_enter func76,ntmps76
  go_upto_region 1 with (fail)
  try rw[hW0]
  clear hW0
  go_region_held3 (fun V=>V.cell? ⟨w.heap.size,1,none⟩=some (.iface 69 v1)∧V.cell? ⟨w.heap.size,2,none⟩=some (.iface 107 v2)∧V.cell? ⟨w.heap.size+1,0,none⟩=some (.int .i64 (g:Int))∧V.cell? ⟨w.heap.size+1,1,none⟩=some (.int .u64 (i:Int)))
    (first|with_reducible exact HX.out _ xc|with_reducible exact HX.out _ (Lb _ _))
    (first
      | (go_at_call 214;with_reducible refine(HE1.out _ (Qa hb0 xc)).mono ?_;rintro e w1 ⟨rfl,hb1⟩;replace xc:=Qa xc hb1;clear hb1)
      | (go_at_call 216;with_reducible refine(HE2.out _ (Qa hb0 xc)).mono ?_;rintro e w1 ⟨rfl,hb1⟩;replace xc:=Qa xc hb1;clear hb1))
  have x5:=HB.out.next xc;have xb:=Qa hb0 xc;clear k1 k2 k3 k4 HX
  go_upto_region 3 with (fail)
  obtain⟨F,hFe,h3,hb3⟩:=Qce w1
  try rw[hFe]
  clear hFe;have x6:=x5.next hb3;have xbF:=Qa xb hb3;have hl9:w.heap.size+1+1<w1.heap.size:=x5.s5.lt;have ⟨c0,c1,c2,d0,d1,_⟩:=x6;obtain⟨u1,u2,u3,u4,u5⟩:=HU9.out;clear x5 xb hb3 HE1 HE2 HB xc;have H3:=Qe h3;have H6:=Qe x6;clear h3 x6
  go_upto_region 5 with (go_at_call 76;with_reducible refine(HL1.out _ xbF).mono ?_;rintro e w2 ⟨rfl,hb2⟩)
  obtain⟨F2,hFe,s51,hb4,hsz2⟩:=Qgj w2 x1 y1 q1
  try rw[hFe]
  clear hFe;have y6:=H6.out.next (Qa hb2 hb4);have ⟨c0',c1',c2',d0',d1',_⟩:=y6;have xb2:=Qa xbF (Qa hb2 hb4);have hz2:w1.heap.size<w2.heap.size:=(H3.out.next hb2).lt;clear c0 c1 c2 d0 d1 y6
  go_upto_region 6 with (go_at_call 76;with_reducible refine(HL2.out _ xb2).mono ?_;rintro e w3 ⟨rfl,hb5⟩)
  obtain⟨F3,hFe,s52,hb6,hsz3⟩:=Qgj w3 x2 y2 q2
  try rw[hFe]
  clear hFe;have s53:=s51.next (Qa hb5 hb6);obtain⟨a0,a1,a2,a3,a4⟩:=s53.cells;obtain⟨b0,b1,b2,b3,b4⟩:=s52.cells;have xb3:=Qa xb2 (Qa hb5 hb6);have HA:Hid (∀V,Zb F3 V->Bw V w.heap.size k v1 107 v2 (g:Int) (i:Int)∧P3 V w1.heap.size none∧S5 V w2.heap.size x1 y1 q1∧S5 V w3.heap.size x2 y2 q2):=fun V hb=>⟨H6.out.next (Qa (Qa (Qa (Qa hb2 hb4) hb5) hb6) hb),H3.out.next (Qa (Qa (Qa (Qa hb2 hb4) hb5) hb6) hb),s53.next hb,s52.next hb⟩
  clear c0' c1' c2' d0' d1' hb2 hb4 hb5 hb6 xb2 s51 s52 s53 hsz2 hsz3 u1 u2 u3 u4 u5 HU9 HL1 HL2 H3 H6;have xcA:=Lb F3.heap.size F3
  go_upto_region 7 with (go_at_call 128;with_reducible refine(HN1.out _).mono ?_;rintro e w4 ⟨rfl,hb7⟩)
  replace xcA:=Qa xcA hb7;have ⟨_,_,z51,z52⟩:=HA.out _ xcA;obtain⟨a0,a1,a2,a3,a4⟩:=z51.cells;obtain⟨b0,b1,b2,b3,b4⟩:=z52.cells
  go_upto_region 8 with (go_at_call 128;with_reducible refine(HN2.out _).mono ?_;rintro e w5 ⟨rfl,hb8⟩)
  replace xcA:=Qa xcA hb8;have ⟨_,_,z51',z52'⟩:=HA.out _ xcA;obtain⟨a0,a1,a2,a3,a4⟩:=z51'.cells;obtain⟨b0,b1,b2,b3,b4⟩:=z52'.cells;clear z51 z52 z51' z52' hb7 hb8
  go_upto_region 9 with (go_at_call 73;with_reducible refine(HOY.out _).mono ?_;rintro e w6 ⟨rfl,hb9⟩;replace xcA:=Qa xcA hb9;obtain⟨y6,h3,_,_⟩:=HA.out _ xcA;obtain⟨g0,g1,g2⟩:=h3.cells;have gf:=h3.fz)
  obtain⟨F,hFe⟩:=Ze (putP w6 w1.heap.size Y);have hp3:=h3.put Y;have hch3:=J8 w6 w1.heap.size Y;rw[hFe] at hp3 hch3;unfold putP at hFe
  try rw[hFe]
  clear hFe;have x6:Bw F w.heap.size k v1 107 v2 (g:Int) (i:Int):=y6.ch hch3 hl9;have xbF:Zb w F:=(Qa xb3 xcA).trans (hch3.below (by rintro b rfl;omega))
  clear h3 g0 g1 g2 gf y6 hch3 xcA xb3 hb9;have h3:=hp3;clear hp3;have HB9:Hid (∀V,Zb F V->Zb w V):=fun V hb=>Qa xbF hb
  have HK9:Hid (∀V,Zb F V->V.cell? ⟨w.heap.size,0,none⟩=some (.int .i64 k)∧V.cell? ⟨w1.heap.size,0,none⟩=some (.string (pA Y))∧V.cell? ⟨w1.heap.size,1,none⟩=some (.string (pB' Y))∧V.cell? ⟨w1.heap.size,2,none⟩=some (.bool (Option.isSome Y))):=fun V hb=>⟨(x6.next hb).c0,(h3.next hb).cells⟩
  have HQ:Hid (∀V x y q,Zb F V->(Oh V (w.heap.size+1+1) x y q).cell? ⟨w.heap.size,0,none⟩=some (.int .i64 k)∧(Oh V (w.heap.size+1+1) x y q).cell? ⟨w1.heap.size,0,none⟩=some (.string (pA Y))∧(Oh V (w.heap.size+1+1) x y q).cell? ⟨w1.heap.size,1,none⟩=some (.string (pB' Y))∧(Oh V (w.heap.size+1+1) x y q).cell? ⟨w1.heap.size,2,none⟩=some (.bool (Option.isSome Y))):=fun V x y q hb=>by
    obtain⟨q0,q1,q2,q3⟩:=HK9.out V hb;have n1:w.heap.size≠w.heap.size+1+1:=by omega
    have n2:w1.heap.size≠w.heap.size+1+1:=by omega
    exact⟨Ya x y q q0 n1,Ya x y q q1 n2,Ya x y q q2 n2,Ya x y q q3 n2⟩
  have HS9:Hid (∀V,Zb F V->S5 V (w.heap.size+1+1) ⟨#[]⟩ ⟨#[]⟩ none):=fun V hb=>(x6.next hb).s5
  obtain⟨e0,e1,e2,e3⟩:=HK9.out F (Lb _ _);have xc9:=(Lb F.heap.size F).drew;clear x6 h3 hl9
  go_region_held3 (fun V=>V.cell? ⟨w.heap.size,0,none⟩=some (.int .i64 k)∧V.cell? ⟨w1.heap.size,0,none⟩=some (.string (pA Y))∧V.cell? ⟨w1.heap.size,1,none⟩=some (.string (pB' Y))∧V.cell? ⟨w1.heap.size,2,none⟩=some (.bool (Option.isSome Y)))
    (first|with_reducible exact HK9.out _ xc9|with_reducible exact HQ9.out|with_reducible exact HK9.out _ (Lb _ _))
    (first
      | (go_at_call 222;first
          | (with_reducible refine(HD1.out _ (HB9.out _ xc9)).mono ?_)
          | (with_reducible refine(HD2.out _ (HB9.out _ xc9)).mono ?_)
         rintro e w2 ⟨rfl,hb1⟩;replace xc9:=Qa xc9 hb1;clear hb1)
      | (go_at_call 129;first
          | (with_reducible refine(HT1.out _).mono ?_)
          | (with_reducible refine(HT2.out _).mono ?_)
         rintro e w2 ⟨rfl,hb1⟩;replace xc9:=Qa xc9 hb1;clear hb1)
      | (go_at_call 70;with_reducible refine(HU.out _).mono ?_;rintro e w2 ⟨rfl,hb1⟩;replace xc9:=Qa xc9 hb1;clear hb1)
      | (go_at_call 73;with_reducible refine(HO.out _).mono ?_;rintro e w9 ⟨rfl,hb1⟩;replace xc9:=Qa xc9 hb1;clear hb1
         have s9:=HS9.out _ xc9;obtain⟨a0,a1,a2,a3,a4⟩:=s9.cells;have fz:=s9.fz;have HQ9:=Qe (HQ.out w9 r1 r2 Z xc9)))
  have hp:=s9.put r1 r2 Z;have hch:=Qbg w9 (w.heap.size+1+1) r1 r2 Z;obtain⟨b0,b1,b2,b3,b4⟩:=hp.cells;go_wp2;refine Lp (v:=snV r1 r2 Z) (by simp[results,results76,go_sem,b0,b1,b2,b3,b4]) rfl ⟨rfl,?_⟩
  exact(HB9.out _ xc9).trans (hch.below (by rintro b rfl;omega))
theorem Qcy(w:World){ops:Array Oper}{o:Oper}{a:Act}{K:Act->World->Prop}{Q:Exit->Act->World->Prop}{E:Prop}(hgd:o.guard=none)
  (s x:Operand) (hop:o.op=Op.call { callee:=Callee.builtin Builtin.append,args:=#[s,x],argTypes:=#[22,22] })
  (B:Nat) (v:Value) (P:LB) (hs:a.eval s=v) (hown:Qk w B v P) (g:Nat) (d:BA) (hx:a.eval x = .slice (some ⟨g,0,none⟩) 1 1) (hc:w.cell? ⟨g,0,none⟩=some (.string d)) (hl:P.length<=1000) (hB:B<=w.heap.size)
  (hK : ∀v' w',Qk w' B v' (P++[d])->w.grownBy w' v.ownBlock->(v'.ownBlock=v.ownBlock ∨ ∀b,v'.ownBlock=some b->w.heap.size<=b)->K (a.put o.dst v') w'):if Region.wanted o (yielded ops a.tmps)=true then Oper.wp prog o a w K Q else E:=by
 have hw:Region.wanted o (yielded ops a.tmps)=true:=by simp[Region.wanted,hgd]
 rw[Lm hw];obtain⟨i0,hi,xF,xD,xG⟩:=info_parts Tryz.infoS;have xA : ∀j c,[Value.string d][j]? = some c->w.cell? ((⟨g,0,none⟩:Addr).add j)=some c:=fun j c hj=>by
  match j,hj with
  | 0,hj=>simp at hj;subst hj;simpa [Addr.add] using hc
 have xE : ∀u∈[Value.string d],u.oneCell'=true:=by intro u hu;simp at hu;subst hu;rfl
 have xH : ∃v' w',(Builtin.append_ #[22,22] o.type #[v,.slice (some ⟨g,0,none⟩) 1 1]).run prog w = .ok v' w'∧w'.ownsRow B 9 1 v' (P.length+1) (P.map Value.string++[.string d])∧w.grownBy w' v.ownBlock∧(v'.ownBlock=v.ownBlock ∨ ∀b,v'.ownBlock=some b->w.heap.size<=b):=by
  have xC:=hown;obtain⟨g1,g2⟩:=hown
  rcases g2 with ⟨rfl,h0⟩|⟨q,cp,cur,rfl,hgb,hh,hc'⟩
  ·have hP:P=[]:=List.length_eq_zero_iff.1 h0;subst hP;obtain⟨v',w',xB,r1,r2,_⟩:=run_append_own (P:=prog) w w.heap.size 22 o.type 9 i0 (.string ByteArray.empty) 1 16 underlying22 hi xF xD xG rfl (by decide) _ 0 [] (LT _ _ _ _) ⟨g,0,none⟩ 1 1 [.string d] rfl xA xE (by unfold maxLen;omega) (by omega) (Ld _)
   exact⟨v',w',xB,r1.mono hB,r2,.inr fun k hk=>(r1.lt k hk).1⟩
  ·by_cases hfit:P.length+1<=cp
   ·obtain⟨w',xB,r1,r2⟩:=run_append_fits (P:=prog) w B 22 o.type 9 i0 1 underlying22 hi xD q P.length cp _ xC ⟨g,0,none⟩ 1 1 [.string d] rfl xA xE hfit;exact⟨_,w',xB,r1,r2,.inl rfl⟩
   ·obtain⟨v',w',xB,r1,r2⟩:=run_append_arg_grows (P:=prog) w 22 o.type 9 i0 (.string ByteArray.empty) 1 16 underlying22 hi xF xD xG rfl (by decide) ⟨q,0,none⟩ P.length cp _ g1 (xC.cells rfl) ⟨g,0,none⟩ 1 1 [.string d] rfl xA (by omega) (by unfold maxLen;omega) (by omega)
    exact⟨v',w',xB,r1.mono hB,⟨r2.os,r2.tape,r2.output,r2.size,fun k hk _=>r2.block k hk (by simp)⟩,.inr fun k hk=>(r1.lt k hk).1⟩
 obtain⟨v',w',xB,r1,r2,r3⟩:=xH;unfold Oper.wp;simp[execOp,hop,resolve,invoke,builtin,hs,hx,xB,Result.andThen];refine hK v' w' ?_ r2 r3
 rw[Qk,L8,Lg];exact r1
def Apt(v u:Value):Prop := ∀g,v.ownBlock=some g->u.ownBlock=some g->False
structure Pr(B:Nat)(wr:World)(v u:Value)(P Q:LB):Prop where
 ov:Qk wr B v P
 ou:Qk wr B u Q
 ap:Apt v u
section
variable {B:Nat} {w w':World} {v u v':Value} {P Q P':LB}
theorem Pr.next(h:Pr B w v u P Q)(hb:Zb w w'):Pr B w' v u P Q:=⟨Qm h.ov hb (Ld _),Qm h.ou hb (Ld _),h.ap⟩
theorem Pr.swap(h:Pr B w v u P Q):Pr B w u v Q P:=⟨h.ou,h.ov,fun g h1 h2=>h.ap g h2 h1⟩
theorem Pr.app(h:Pr B w v u P Q)(o:Qk w' B v' P')(g:w.grownBy w' v.ownBlock)(f:v'.ownBlock=v.ownBlock ∨ ∀b,v'.ownBlock=some b->w.heap.size<=b):Pr B w' v' u P' Q:=by
 refine⟨o,Qi h.ou fun b hb _=>g.block b (LP h.ou b hb).2 fun e=>h.ap b e.symm hb,fun b h1 h2 => ?_⟩
 rcases f with f|f
 ·exact h.ap b (f.symm.trans h1) h2
 ·have:=f b h1;have:=(LP h.ou b h2).2;omega
theorem Qf0(B:Nat)(w:World):Pr B w (.slice none 0 0) (.slice none 0 0) [] []:=⟨LT _ _ _ _,LT _ _ _ _,fun g h _=>by cases h⟩
end
section
open Cv (zl)
theorem Qc1(n:Nat)(h40:n<=2^40)(M:List (Nat×Nat))(hM:Cv.dnL 41 0 n=M)(W:World):Calls prog 75 #[.int .u64 (n:Int)] W fun e w' => ∃ao g cap,e = .returned (.tuple #[.slice ao M.length cap,.int .i64 0])∧RdB w' ao g 0 M.length (zl M)∧Zb W w':=by
 have xA : ∀b∈M,(b.2+1)*2^b.1<=n:=by rw[<-hM];exact U4 n h40
 have h:=Cv.YH n W;rw[(YM n h40).1,(YM n h40).2,hM] at h;refine h.mono fun e w' ⟨v,e1,e2,e3⟩ => ?_
 obtain⟨ao,g,n',cap,rfl,xB,_⟩:=Y4 e2 (fun b hb=>by
  obtain⟨b0,xC,rfl⟩:=List.mem_map.1 hb;exact(UF (xA b0 xC) h40).1)
 have hl:=xB.len;rw[Cv.QC] at hl;subst hl;exact⟨ao,g,cap,e1,xB,e3⟩
theorem Qlo(F:Nat->Nat->Pq)(B:List (Nat×Nat)){j:Nat}(hj:j<B.length):fm F (B.drop j)=(F (B.getD j (0,0)).1 (B.getD j (0,0)).2).or (fm F (B.drop (j+1))):=by
 rw[LO hj,fm,La,Lc hj]
 rfl
theorem Oj(f:Nat×Nat->BA)(B:List (Nat×Nat)){j:Nat}(hj:j<B.length):(B.take (j+1)).map f=(B.take j).map f++[f (B.getD j (0,0))]:=by
 rw[LW hj,L8,La,Lc hj]
 rfl
theorem cn1(w:World)(d:BA)(T:Nat):(w.alloc (.cells #[.string d] T)).cell? ⟨w.heap.size,0,none⟩=some (.string d):=cell_of_one (Lu w _)
theorem cn2(w:World)(d:BA)(T:Nat)(o:Obj):((w.alloc (.cells #[.string d] T)).alloc o).cell? ⟨w.heap.size,0,none⟩=some (.string d) :=
 cell_of_one (((bal (Lb _ (w.alloc (.cells #[.string d] T))) o).block w.heap.size (by rw[LA];omega)).trans (Lu w _))
theorem cn3(w:World)(d:BA)(T:Nat)(o:Obj):((w.alloc o).alloc (.cells #[.string d] T)).cell? ⟨w.heap.size+1,0,none⟩=some (.string d):=by
 have:=cn1 (w.alloc o) d T
 rwa [LA] at this
theorem Qod{W w':World}{ob:Option Nat}{g N:Nat}{c:Value}(h6:W.grownBy w' ob)(ho : ∀b,ob=some b->b<N)(hN:N<=g)(h:W.cell? ⟨g,0,none⟩=some c):w'.cell? ⟨g,0,none⟩=some c :=
 (LC (a:=⟨g,0,none⟩) (h6.block g (Lh W _ h) fun e=>by have:=ho g e.symm;omega)).trans h
theorem Qnl{W w':World}{ob:Option Nat}{g N:Nat}{c:Obj}(h6:W.grownBy w' ob)(ho : ∀b,ob=some b->b<N)(hN:N<=g)(h:W.heap[g]? = some c):w'.heap[g]? = some c :=
 (h6.block g (Array.getElem?_eq_some_iff.1 h).1 fun e=>by have:=ho g e.symm;omega).trans h
theorem Qlr{W w':World}{ob:Option Nat}{g N:Nat}{c:Obj}(h6:W.grownBy w' ob)(ho : ∀b,ob=some b->N<=b)(hN:g<N)(h:W.heap[g]? = some c):w'.heap[g]? = some c :=
 (h6.block g (Array.getElem?_eq_some_iff.1 h).1 fun e=>by have:=ho g e.symm;omega).trans h
structure Aw(N g5 gz:Nat)(F V:World)(v u:Value)(P Q:LB)(Z:Pq)(x y:BA)(q:Pq):Prop where
 pr:Pr (N+1) V v u P Q
 p3:P3 V N Z
 s5:S5 V g5 x y q
 be:Below (N+1) F V
 sz:N+1<=V.heap.size
section
variable {N g5 gz:Nat} {F V W:World} {v u v':Value} {P Q P':LB} {Z:Pq} {x y:BA} {q:Pq}
theorem Aw.next(h:Aw N g5 gz F V v u P Q Z x y q)(hb:Zb V W):Aw N g5 gz F W v u P Q Z x y q:=⟨h.pr.next hb,h.p3.next hb,h.s5.next hb,h.be.trans (hb.mono h.sz),Lz h.sz hb.size⟩
theorem Aw.swap(h:Aw N g5 gz F V v u P Q Z x y q):Aw N g5 gz F V u v Q P Z x y q:=⟨h.pr.swap,h.p3,h.s5,h.be,h.sz⟩
theorem Aw.app(h:Aw N g5 gz F V v u P Q Z x y q)(o:Qk W (N+1) v' P')(g:V.grownBy W v.ownBlock)(f:v'.ownBlock=v.ownBlock ∨ ∀b,v'.ownBlock=some b->V.heap.size<=b)(lo : ∀b,v.ownBlock=some b->N+1<=b∧b<gz)(hg:gz<=g5):Aw N g5 gz F W v' u P' Q Z x y q:=by
 have hb:Below (N+1) V W:=(Lb _ _).grown g h.sz fun b hb=>(lo b hb).1
 exact⟨h.pr.app o g f,Qlr g (fun b hb=>(lo b hb).1) (by omega) h.p3,Qnl g (fun b hb=>(lo b hb).2) hg h.s5,h.be.trans hb,Lz h.sz hb.size⟩
theorem Aw.seen(h:Aw N g5 gz F V v u P Q Z x y q):V.cell? ⟨g5,0,none⟩=some (.string x)∧V.cell? ⟨g5,1,none⟩=some (.string y):=⟨h.s5.cells.1,h.s5.cells.2.1⟩
end
theorem all_any (w:World) (ht:Tb w) (k:Int) (v1:Value) (T2:Nat) (v2:Value) (n:Nat) (h40:n<=2^40) (M:List (Nat×Nat)) (hM:Cv.dnL 41 0 n=M) (X Y:Nat×Nat->BA) (hX : ∀b,(X b).size<=32) (hY : ∀b,(Y b).size<=32) (F:Nat->Nat->Pq)
    (HBk : ∀W b,Zb w W->b∈M->Zr 76 #[wkV k v1 T2 v2,bkV b.1 b.2] W (snV (X b) (Y b) (F b.1 b.2)))
    (T:Pq) (hT:(tp (clk k) n (M.map X) (M.map Y)).or (fm F M)=T) :
    Zr 35 #[wkV k v1 T2 v2,.int .u64 (n:Int)] w (pv T):=by
  have HMt:Hid (∀W,Calls prog 75 #[.int .u64 (n:Int)] W fun e w' => ∃ao g cap,e = .returned (.tuple #[.slice ao M.length cap,.int .i64 0])∧RdB w' ao g 0 M.length (zl M)∧Zb W w'):=fun W=>Qc1 n h40 M hM W
  have hMl:M.length<=41:=by rw[<-hM];exact Cv.YS 41 0 n
  have HBk':=Qe HBk;clear HBk;have hb0:=bal (bal (Lb w.heap.size w) (.cells #[.int .i64 k,.iface 69 v1,.iface T2 v2] 73)) (.cells #[.string ⟨#[]⟩,.string ⟨#[]⟩,.bool false] 59);have hz:(M.length:Int)<=41:=by omega
  have HT:=Qe hT;clear hM h40 hT
  go_enter func35,ntmps35
  go_upto_region 4 with (go_at_call 75;with_reducible refine(HMt.out _).mono ?_;rintro e w2 ⟨ao,gM,capM,rfl,hrB,hb2⟩)
  obtain⟨F0,hFe,h30,hb30⟩:=Qce w2
  try rw[hFe]
  clear hFe;have HV:Hid (∀W,Zb w2 W->(W.cell? ⟨w.heap.size,0,none⟩=some (.int .i64 k)∧W.cell? ⟨w.heap.size,1,none⟩=some (.iface 69 v1)∧W.cell? ⟨w.heap.size,2,none⟩=some (.iface T2 v2))∧P3 W (w.heap.size+1) none∧RdB W ao gM 0 M.length (zl M)∧Zb w W):=fun W hb=>by
    obtain⟨Z,hZ⟩:=Ze ((w.alloc (.cells #[.int .i64 k,.iface 69 v1,.iface T2 v2] 73)).alloc (.cells #[.string ⟨#[]⟩,.string ⟨#[]⟩,.bool false] 59));have hzz:Z.heap.size=w.heap.size+2:=by rw[<-hZ,LA,LA]
    have q1:Z.heap[w.heap.size]? = some (.cells #[.int .i64 k,.iface 69 v1,.iface T2 v2] 73 (0,0)):=by
      rw[<-hZ];exact((bal (Lb _ (w.alloc (.cells #[.int .i64 k,.iface 69 v1,.iface T2 v2] 73))) _).block _ (by rw[LA];omega)).trans (Lu w _)
    have q2:P3 Z (w.heap.size+1) none:=by
      have:=Lu (w.alloc (.cells #[.int .i64 k,.iface 69 v1,.iface T2 v2] 73)) (.cells #[.string ⟨#[]⟩,.string ⟨#[]⟩,.bool false] 59);rw[LA,hZ] at this;exact this
    rw[hZ] at hb0 hb2;have hbZ:=Qa hb2 hb;have q3:W.heap[w.heap.size]? = _:=(hbZ.block w.heap.size (by omega)).trans q1
    exact⟨⟨by rw[cell_of_row W w.heap.size 0 _ _ (0,0) q3];rfl,by rw[cell_of_row W w.heap.size 1 _ _ (0,0) q3];rfl,by rw[cell_of_row W w.heap.size 2 _ _ (0,0) q3];rfl⟩,q2.next hbZ,hrB.below hb,Qa (Qa hb0 hb2) hb⟩
  have H30:=Qe (Lo h30 hb30);have hz5:w.heap.size+1<w2.heap.size:=(HV.out w2 (Lb _ _)).2.1.lt;have HE0:Hid ((none:Pq).or (fm F (M.drop 0))=fm F M):=rfl;clear hb0 hb2 hrB h30 hb30 HMt;go_wp2
  go_loopg [7,8,21] M.length (fun g v u i wr => ∃(j:Nat) (Z:Pq),g=M.length - j∧j<=M.length∧i = .int .i64 (j:Int)∧Hid (Z.or (fm F (M.drop j))=fm F M)∧Hid (P3 wr w2.heap.size Z)∧Hid (Pr (w2.heap.size+1) wr v u ((M.take j).map X) ((M.take j).map Y))∧Hid (Zb w2 wr))
  case atStart=>go_light;exact⟨0,none,rfl,Ll _,rfl,HE0,H30.out.1,Qf0 _ _,H30.out.2⟩
  case round =>
    clear H30 HE0;obtain⟨j,Z,rfl,hj,rfl,HE,H3,HPr,HBw⟩:=hrel
    by_cases hlt:j<M.length
    · have z0:(0:Int)<=(j:Int):=Lf _;have z1:(j:Int)<(M.length:Int):=by omega
      obtain⟨⟨c0,c1,c2⟩,_,hrd,hbw⟩:=HV.out wr HBw.out;obtain rfl:=hrd.addr (by omega)
      obtain⟨b,hbb⟩:=Ze (M.getD j (0,0));have hbm:b∈M:=by rw[<-hbb,La,Lc hlt];exact LG _
      obtain⟨k0,k1⟩:=hrd.cell j hlt;have hzl:(zl M).getD j (0,0)=((b.1:Int),b.2):=by
        rw[<-hbb,La,La,zl,No,Lc hlt];rfl
      rw[hzl] at k0 k1;simp only at k0 k1;rw[Lr] at k0 k1;obtain⟨x,hx⟩:=Ze (X b);obtain⟨y,hy⟩:=Ze (Y b);obtain⟨q,hq⟩:=Ze (F b.1 b.2);obtain⟨Z',hZ'⟩ : ∃Z',Z.or q=Z':=⟨_,rfl⟩;have HOr:Hid (∀W,Zr 73 #[pv Z,pv q] W (pv Z')):=fun W=>Qb9 W Z q Z' hZ'
      have HN:Hid (Z'.or (fm F (M.drop (j+1)))=fm F M∧(M.take (j+1)).map X=(M.take j).map X++[x]∧(M.take (j+1)).map Y=(M.take j).map Y++[y]∧((M.take j).map X).length<=1000∧((M.take j).map Y).length<=1000):=by
        refine⟨?_,by rw[Oj X M hlt,hbb,hx],by rw[Oj Y M hlt,hbb,hy],by rw[Lx,Lq];omega,by rw[Lx,Lq];omega⟩
        have:=HE.out;rw[Qlo F M hlt,hbb,hq] at this;rw[<-this,<-hZ']
        cases Z <;> rfl
      have HB1:Hr w 76 #[wkV k v1 T2 v2,bkV b.1 b.2] (snV x y q):=fun W hb=>by
        have:=HBk'.out W b hb hbm;rw[hx,hy,hq] at this;exact this
      obtain⟨bh,bk⟩:=b;simp only at k0 k1;clear hrd hzl hbb hbm hx hy hq hZ' HE
      go_upto_region 7 with (fail)
      obtain⟨W1,hW1⟩:=Ze (wr.alloc (.cells #[.int .i64 (bh:Int),.int .u64 (bk:Int)] 83));have hb1:Zb wr W1:=by rw[<-hW1];exact bal (Lb _ _) _
      have t1:W1.heap[wr.heap.size]? = some (.cells #[.int .i64 (bh:Int),.int .u64 (bk:Int)] 83 (0,0)):=by rw[<-hW1];exact Lu wr _
      have d0:W1.cell? ⟨wr.heap.size,0,none⟩=some (.int .i64 (bh:Int)):=by rw[cell_of_row W1 wr.heap.size 0 _ _ (0,0) t1];rfl
      have d1:W1.cell? ⟨wr.heap.size,1,none⟩=some (.int .u64 (bk:Int)):=by rw[cell_of_row W1 wr.heap.size 1 _ _ (0,0) t1];rfl
      try rw[hW1]
      obtain⟨⟨c0',c1',c2'⟩,_,_,hbw1⟩:=HV.out W1 (Qa HBw.out hb1);clear hW1 t1 c0 c1 c2 k0 k1
      go_upto_region 8 with (go_at_call 76;with_reducible refine(HB1.out _ hbw1).mono ?_;rintro e w4 ⟨rfl,hb4⟩)
      obtain⟨F5,hFe,s5,hb5,hsz5⟩:=Qgj w4 x y q
      try rw[hFe]
      clear hFe;have hbR:=Qa (Qa hb1 hb4) hb5;have hPr:=HPr.out.next hbR;have h3:=H3.out.next hbR;have hlw:wr.heap.size<=w4.heap.size:=Lz hb1.size hb4.size;have hl2:w2.heap.size<wr.heap.size:=H3.out.lt;obtain⟨e0,e1,e2,e3,e4⟩:=s5.cells
      -- the lists lie ahead of what is seen
      have lo1 : ∀g,u7.ownBlock=some g->w2.heap.size+1<=g∧g<wr.heap.size:=fun g hg=>LP HPr.out.ov g hg
      have lo2 : ∀g,u8.ownBlock=some g->w2.heap.size+1<=g∧g<wr.heap.size:=fun g hg=>LP HPr.out.ou g hg
      have HS:Hid (∀V,Zb F5 V->V.cell? ⟨w4.heap.size,0,none⟩=some (.string x)∧V.cell? ⟨w4.heap.size,1,none⟩=some (.string y)):=fun V hb=>⟨(s5.next hb).cells.1,(s5.next hb).cells.2.1⟩
      have HQ:=Qe (Lo hPr (Lo h3 (Lo s5 (Lo lo1 lo2))));clear hPr h3 s5 lo1 lo2 c0' c1' c2' d0 d1 hb1 hb4 hb5 hbw1 hbw
      go_cut [7,8] from 28 to 37 (fun v u wx=>Hid (Aw w2.heap.size w4.heap.size wr.heap.size F5 wx v u ((M.take j).map X++[x]) ((M.take j).map Y++[y]) Z x y q))
      case first =>
        have HP:Hid (∀V,Zb F5 V->Aw w2.heap.size w4.heap.size wr.heap.size F5 V u7 u8 ((M.take j).map X) ((M.take j).map Y) Z x y q):=fun V hb=>⟨HQ.out.1.next hb,HQ.out.2.1.next hb,HQ.out.2.2.1.next hb,hb.mono (by have:=HQ.out.2.1.lt;omega),by have:=HQ.out.2.1.lt;have:=hb.size;omega⟩
        have lo1:=Qe HQ.out.2.2.2.1;have lo2:=Qe HQ.out.2.2.2.2;have HL:=Qe (Lo hl2 (Lo hlw (show w4.heap.size<F5.heap.size by omega)))
        clear HQ hl2 hlw hsz5 e0 e1 e2 e3 e4;have HN4:=Qe HN.out.2.2.2;obtain⟨e0,e1⟩:=HS.out F5 (Lb _ _)
        go_region_held3 (fun V=>V.cell? ⟨w4.heap.size,0,none⟩=some (.string x)∧V.cell? ⟨w4.heap.size,1,none⟩=some (.string y))
          (first|with_reducible exact hp7.out.seen|with_reducible exact(hp6.out.next (by repeat (first|with_reducible exact Lb _ _|refine LK ?_|refine bal ?_ _))).seen|with_reducible exact HS.out _ (by repeat (first|with_reducible exact Lb _ _|refine LK ?_|refine bal ?_ _)))
          (first
            | (refine Qcy _ (by rfl) _ _ (by rfl) (w2.heap.size+1) u8 ((M.take j).map Y) (by rfl) (hp6.out.next (by repeat (first|with_reducible exact Lb _ _|refine LK ?_|refine bal ?_ _))).swap.pr.ov _ y (by rfl) (by first|exact cn1 _ _ _|exact Qod g6 (fun b hb=>(lo1.out b hb).2) (by have:=HL.out;omega) (by first|exact cn1 _ _ _|exact cn2 _ _ _ _|exact cn3 _ _ _ _)) HN4.out.2 (hp6.out.next (by repeat (first|with_reducible exact Lb _ _|refine LK ?_|refine bal ?_ _))).sz ?_
               intro v7 w7 o7 g7 f7;have hp7:=Qe ((hp6.out.next (by repeat (first|with_reducible exact Lb _ _|refine LK ?_|refine bal ?_ _))).swap.app o7 g7 f7 lo2.out HL.out.2.1))
            | (refine Qcy _ (by rfl) _ _ (by rfl) (w2.heap.size+1) u7 ((M.take j).map X) (by rfl) (HP.out _ (by repeat (first|with_reducible exact Lb _ _|refine LK ?_|refine bal ?_ _))).pr.ov _ x (by rfl) (by first|exact cn1 _ _ _|exact cn2 _ _ _ _|exact cn3 _ _ _ _) HN4.out.1 (HP.out _ (by repeat (first|with_reducible exact Lb _ _|refine LK ?_|refine bal ?_ _))).sz ?_
               intro v6 w6 o6 g6 f6;have hp6:=Qe ((HP.out _ (by repeat (first|with_reducible exact Lb _ _|refine LK ?_|refine bal ?_ _))).app o6 g6 f6 lo1.out HL.out.2.1)))
        all_goals
          go_wp2
          go_meet
          case rel=>go_light;exact hp7.out.swap
      case rest =>
        have hA:=hcut.out;obtain⟨f0,f1,f2⟩:=hA.p3.cells;obtain⟨_,_,g2,g3,g4⟩:=hA.s5.cells;have HA:=Qe hA;have HQx:=Qe (Lo hl2 (Lo hlw hbR));clear hA hcut HQ HS e0 e1 e2 e3 e4 hsz5
        go_upto_region 10 with (go_at_call 73;with_reducible refine(HOr.out _).mono ?_;rintro e w8 ⟨rfl,hb8⟩;have hA8:=HA.out.next hb8;obtain⟨h0,h1,h2⟩:=hA8.p3.cells;have hf:=hA8.p3.fz)
        have hp:=hA8.p3.put Z';have hch:=J8 w8 w2.heap.size Z';obtain⟨W9,hW9⟩:=Ze (putP w8 w2.heap.size Z');rw[hW9] at hp hch;unfold putP at hW9
        try rw[hW9]
        have HF:Hid (P3 W9 w2.heap.size Z'∧Pr (w2.heap.size+1) W9 u7 u8 ((M.take (j+1)).map X) ((M.take (j+1)).map Y)∧Zb w2 W9):=by
          refine⟨hp,?_,?_⟩
          · rw[HN.out.2.1,HN.out.2.2.1];exact⟨Qi hA8.pr.ov fun b hb1 hb2=>hch.block b (by have:=(LP hA8.pr.ov b hb1).1;omega),Qi hA8.pr.ou fun b hb1 hb2=>hch.block b (by have:=(LP hA8.pr.ou b hb1).1;omega),hA8.pr.ap⟩
          · have b1:Zb w2 F5:=Qa HBw.out HQx.out.2.2;have b2:Below w2.heap.size F5 w8:=hA8.be.mono (by omega)
            exact(b1.trans b2).trans (hch.below (by rintro b rfl;exact Ld _))
        have HN1:=Qe HN.out.1;clear hW9 hp hch hA8 h0 h1 h2 hf f0 f1 f2 g2 g3 g4 hl2 hlw hbR;go_wp2
        go_roundg (M.length - (j+1))
        case rel=>go_light;exact⟨j+1,Z',rfl,by omega,by go_num,HN1,HF.out.1,HF.out.2.1,HF.out.2.2⟩
        case measure=>go_light;omega
    · obtain rfl:j=M.length:=by omega
      have hz1 : ¬(M.length:Int)<(M.length:Int):=by omega
      obtain⟨⟨c0,c1,c2⟩,hR,_,hbw⟩:=HV.out wr HBw.out;have hE:=HE.out;rw[IT,fm] at hE;have hZf:Z=fm F M:=by rw[<-hE];cases Z <;> rfl
      have hPr:=HPr.out;rw[LY] at hPr;obtain⟨pa,pb,pc,hv7,hp,hpc,hpn⟩:=Qt hPr.ov (fun s hs=>by obtain⟨b,_,rfl⟩:=List.mem_map.1 hs;have:=hX b;omega)
      obtain⟨qa,qb,qc,hv8,hq,hqc,hqn⟩:=Qt hPr.ou (fun s hs=>by obtain⟨b,_,rfl⟩:=List.mem_map.1 hs;have:=hY b;omega)
      have lX:(M.map X).length=M.length:=Lx ..;have lY:(M.map Y).length=M.length:=Lx ..;rw[lX] at hv7 hp hpc;rw[lY] at hv8 hq hqc;subst hv7 hv8;obtain⟨A,hA⟩:=Ze (tp (clk k) n (M.map X) (M.map Y));have HA:Hr wr 34 #[.int .i64 k,.int .u64 (n:Int),.slice pa M.length pc,.slice qa M.length qc] (pv A):=fun W hb=>by
        have:=aboveall_any W (ht.next (Qa hbw hb)) k n pa pb 0 pc (M.map X) (by rw[lX];exact hp.next hb (Ld _)) (by omega) hpn qa qb 0 qc (M.map Y) (by rw[lX];exact hq.next hb (Ld _)) (by omega) hqn (by omega) (fun s hs=>by obtain⟨b,_,rfl⟩:=List.mem_map.1 hs;exact hX b) (fun s hs=>by obtain⟨b,_,rfl⟩:=List.mem_map.1 hs;exact hY b) A hA
        rwa [lX] at this
      have HO:Hid (∀W,Zr 73 #[pv A,pv Z] W (pv T)):=fun W=>Qb9 W A Z T (by rw[hZf,<-hA];exact HT.out)
      have HK:Hid (∀W,Zb wr W->(W.cell? ⟨w.heap.size,0,none⟩=some (.int .i64 k)∧W.cell? ⟨w2.heap.size,0,none⟩=some (.string (pA Z))∧W.cell? ⟨w2.heap.size,1,none⟩=some (.string (pB' Z))∧W.cell? ⟨w2.heap.size,2,none⟩=some (.bool Z.isSome))∧P3 W (w.heap.size+1) none):=fun W hb=>⟨⟨(HV.out W (Qa HBw.out hb)).1.1,(H3.out.next hb).cells⟩,hR.next hb⟩
      obtain⟨⟨k0,k1,k2,k3⟩,hR0⟩:=HK.out wr (Lb _ _);have hc9:=(Lb wr.heap.size wr).drew;clear hX hY lX lY hp hq hpc hqc hpn hqn hPr hZf hE hA HE HPr HBk' hR hR0 HT HV HBw hlt hj
      go_upto_region 11 with (fail)
      go_region_with (first
        | (go_at_call 34;with_reducible refine(HA.out _ hc9).mono ?_;rintro e w8 ⟨rfl,hb8⟩;replace hc9:=Qa hc9 hb8;obtain⟨⟨k0,k1,k2,k3⟩,hR0⟩:=HK.out _ hc9)
        | (go_at_call 73;with_reducible refine(HO.out _).mono ?_;rintro e w9 ⟨rfl,hb9⟩;replace hc9:=Qa hc9 hb9;obtain⟨_,hR9⟩:=HK.out _ hc9;obtain⟨r0,r1,r2⟩:=hR9.cells;have rf:=hR9.fz;simp only[pA,pB',Option.isSome_none] at r0 r1 r2))
      all_goals
        have hp:=hR9.put T;have hch:=J8 w9 (w.heap.size+1) T;obtain⟨d0,d1,d2⟩:=hp.cells;go_wp2;refine Lp (v:=pv T) (by simp[results,results35,go_sem,d0,d1,d2]) rfl ⟨rfl,?_⟩
        exact(Qa hbw hc9).trans (hch.below (by rintro b rfl;omega))
end
end Go.Proofs.YtdocjikpcbmcgaaGreatDoor
