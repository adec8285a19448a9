/- Own work. -/
import Derived.Test.YtdocjikpcbmcgaaGreatDoorQj26
import Derived.Test.YtdocjikpcbmcgaaGreatDoorQj30
set_option maxRecDepth 100000
set_option maxHeartbeats 4000000
namespace Go.Proofs.YtdocjikpcbmcgaaGreatDoor
open Go.RowKit
attribute [local go_sem ↓] Go.wp_at_zero Go.wp_at_succ
section
open Cv (RdC zl cU cov)
open Pl (pw)
def kOld(c old:Nat)(D:LB):BA:=dg c (QN old (QA c (D.take (cov 0 old).length)))
def kNow(c size:Nat)(F:Nat->Nat->BA):BA:=dg c (QN size (QA c (dgF F (cov 0 size))))
theorem QhC{w W:World}{ao:OA}{g n:Nat}{l:List (Int×Nat)}(r:RdB w ao g 0 n l)(h:0<n->W.heap[g]? = w.heap[g]?):RdB W ao g 0 n l :=
 ⟨r.len,r.addr,fun j hj=>⟨(Lr (h (by omega))).trans (r.cell j hj).1,(Lr (h (by omega))).trans (r.cell j hj).2⟩,r.fit⟩
theorem QmK{w:World}{ao:OA}{g n q m:Nat}{d:BA}{l:List (Int×Nat)}(r:RdB w ao g 0 n l)(h0:0<n)(hq:Rh w q m d)(e:g=q):False:=by
 subst e;have h1:=(r.cell 0 h0).1;rw[IS,Ll,hq.cells.1] at h1
 cases h1
theorem kroots_ok (w:World) (ht:Tb w) (k:Int) (old size:Nat) (sa:OA) (sc:Nat) (da:OA) (db dO dc:Nat) (D:LB) (hr:RdS w da db dO D.length D) (hdc:D.length<=dc) (hok:okK 3 k old size 0 D) (F:Nat->Nat->BA) (hJ:Jn (clk k) (kb old size) D F) (r1 r2:BA) (hr1:kOld (clk k) old D=r1) (hr2:kNow (clk k) size F=r2) :
    Zr 36 #[vP 3 k old size (.slice sa 0 sc) (.slice da D.length dc)] w (.tuple #[.agg #[.int .u64 (old:Int),.string r1],.agg #[.int .u64 (size:Int),.string r2],.int .i64 0]):=by
  obtain⟨W0,hW0⟩:=Ze (((w.alloc (.cells #[.int .i64 3,.int .i64 k,.int .u64 (old:Int),.int .u64 (size:Int),.slice sa 0 sc,.slice da D.length dc] 55)).alloc (.cells #[.int .u64 0,.string ⟨#[]⟩] 30)).alloc (.cells #[.int .u64 0,.string ⟨#[]⟩] 30));obtain⟨h3,hb⟩:=OZ w 3 k old size (.slice sa 0 sc) (.slice da D.length dc) hW0;obtain⟨c0,c1,c2,c3,c4,c5⟩:=h3.six.cells;have H3:=Qc h3;obtain⟨h1,h2⟩:=hok;have hos:old<=size:=h1.2.2.1;have hs40:size<=2^40:=h1.2.1;have hkk:1<=k∧k<=32:=h1.1.2;have hfl:D.length=(kb old size).length:=h2.1;have hfs : ∀d∈D,(d.size:Int)=k:=h2.2;have hkl:=OB hos hs40;have hmm:D.length<=8796093022208:=by omega
  have hon:(cov 0 old).length<=D.length:=by rw[hfl,kb,Ld];omega
  have ho1:=Cv.OR old (by omega)
  obtain⟨t,htl⟩:=Ze ((cov 0 old).length);rw[htl] at ho1 hon;have HI:Hid (∀W,Zr 77 #[vP 3 k old size (.slice sa 0 sc) (.slice da D.length dc)] W (.bool true)):=fun W=>QbN W 3 k old size sa 0 sc da D.length dc true (decide_eq_true h1)
  have HBk:Hid (∀W,Calls Tryz.prog 78 #[.int .u64 (old:Int),.int .u64 (size:Int)] W fun e w' => ∃ao g cap,e = .returned (.slice ao (kb old size).length cap)∧RdB w' ao g 0 (kb old size).length (zl (kb old size))∧Zb W w'):=fun W=>(OO W old size hos hs40).mono fun e w' ⟨v,e1,e2,e3⟩=>by
    obtain⟨ao,g,n',cap,rfl,hr',_⟩:=Uc e2 (fun x hx=>by
      obtain⟨b0,hb0,rfl⟩:=LE.1 hx;exact(Oq (QlL hos hs40 b0 hb0) hs40).1)
    have hl:=hr'.len;rw[Cv.Qq] at hl;subst hl;exact⟨ao,g,cap,e1,hr',e3⟩
  have HF:Hid (∀W ao c,Zb w W->Zr 79 #[.slice ao (kb old size).length c,vP 3 k old size (.slice sa 0 sc) (.slice da D.length dc)] W (.bool true)):=fun W ao c hb=>O0 W 3 k old size sa 0 sc da db dO dc D (hr.next hb (Lb _)) hmm ao (kb old size).length c true (decide_eq_true h2)
  have HO:Hid (∀W,Calls Tryz.prog 80 #[.int .u64 (old:Int)] W fun e w'=>e = .returned (.int .i64 (t:Int))∧W=w'):=fun W=>by
    have:=Pl.QbW old W (by omega)
    rw[<-ho1] at this;exact this.mono fun _ _ h=>⟨h.1,h.2.symm⟩
  have HR1:Hid (∀W,Zb w W->Zr 81 #[.int .i64 k,.int .u64 (old:Int),.slice da t dc] W (.string r1)):=fun W hb=>by
    have hrd:=Uk (hr.next hb (Lb _)) hon;rw[Lv,N6 hon] at hrd;exact Qad W (ht.next hb) k old da db dO t dc (D.take t) hrd (fun s hs=>by have:=hfs s (LJ hs);omega) (by omega) r1 (by rw[<-hr1,kOld,htl])
  have HJd:Hid (∀W ao g cap,Zb w W->RdB W ao g 0 (kb old size).length (zl (kb old size))->Calls Tryz.prog 82 #[.slice ao (kb old size).length cap,vP 3 k old size (.slice sa 0 sc) (.slice da D.length dc)] W fun e w' => ∃ap bp cp,e = .returned (.slice ap (cov 0 size).length cp)∧RdS w' ap bp 0 (cov 0 size).length (dgF F (cov 0 size))∧Zb W w'):=fun W ao g cap hb hB=>by
    refine(Qfp W (ht.next hb) 3 k old size sa 0 sc da db dO dc D (hr.next hb (Lb _)) ao g cap size (kb old size) hB (JO hos hs40) hs40 hfl (by omega) F hJ).mono fun e w' ⟨v,e1,e2,e3⟩ => ?_
    obtain⟨aP,bP,cP,rfl,rP,_,_⟩:=Qn e2 (fun s hs=>by
      obtain⟨b,_,rfl⟩:=LE.1 hs;have:=hJ.sz b.1 b.2;omega)
    rw[Ln] at e1 rP;exact⟨aP,bP,cP,e1,rP,e3⟩
  have hsl:=Cv.Uu size hs40;have HR2:Hid (∀W ap bp cp,Zb w W->RdS W ap bp 0 (cov 0 size).length (dgF F (cov 0 size))->Zr 81 #[.int .i64 k,.int .u64 (size:Int),.slice ap (cov 0 size).length cp] W (.string r2)):=fun W ap bp cp hb hR=>Qad W (ht.next hb) k size ap bp 0 (cov 0 size).length cp (dgF F (cov 0 size)) hR (fun s hs=>by
                                obtain⟨b,_,rfl⟩:=LE.1 hs;have:=hJ.sz b.1 b.2;omega) (by omega) r2 (by rw[<-hr2,kNow])
  have htz:(t:Int)<=(D.length:Int):=by omega
  have htc:(t:Int)<=(dc:Int):=by omega
  have ht0:(0:Int)<=(t:Int):=Le _;obtain⟨lb,hlb⟩:=Ze ((kb old size).length);obtain⟨zb,hzb⟩:=Ze (zl (kb old size));obtain⟨ls,hls⟩:=Ze ((cov 0 size).length);obtain⟨P,hP⟩:=Ze (dgF F (cov 0 size));rw[hlb,hzb] at HBk HJd;rw[hlb] at HF;rw[hls,hP] at HJd HR2;clear ht hr hdc h1 h2 hos hs40 hkk hfl hfs hkl hmm hon ho1 htl hJ hr1 hr2 hsl h3 hlb hzb hls hP;unfold vP at HI HF HJd;unfold vP
  go_enter Tryz.func36,Tryz.ntmps36
  go_upto_region 6 with (first
    | (go_at_call 77;with_reducible refine(HI.out _).mono ?_;rintro e w1 ⟨rfl,hb1⟩;obtain⟨d0,d1,d2,d3,d4,d5⟩:=(H3.out.next hb1).six.cells)
    | (go_at_call 78;with_reducible refine(HBk.out _).mono ?_;rintro e w2 ⟨ao,g,cap,rfl,hB2,hb2⟩;obtain⟨g0,g1,g2,g3,g4,g5⟩:=(H3.out.next (Qa hb1 hb2)).six.cells)
    | (go_at_call 79;with_reducible refine(HF.out _ _ _ (Qa (Qa hb hb1) hb2)).mono ?_;rintro e w3 ⟨rfl,hb3⟩))
  have hK3:=H3.out.next (Qa (Qa hb1 hb2) hb3);have hB3:=hB2.below hb3;have hbw:=Qa (Qa (Qa hb hb1) hb2) hb3;have HK:Hid (∀Z,Zb w3 Z->Zb w Z∧K3 Z w.heap.size 3 k old size (.slice sa 0 sc) (.slice da D.length dc) 0 ⟨#[]⟩ 0 ⟨#[]⟩∧RdB Z ao g 0 lb zb):=fun Z hZ=>⟨Qa hbw hZ,hK3.next hZ,hB3.below hZ⟩
  have hb0:=Below.refl w3.heap.size w3;clear H3 HI HBk HF hb hb1 hb2 hb3 hW0 c0 c1 c2 c3 c4 c5 d0 d1 d2 d3 d4 d5 g0 g1 g2 g3 g4 g5 hB2 hK3 hB3 hbw;have HC:Hid (∀Z,Zb w3 Z->Z.cell? ⟨w.heap.size,5,none⟩=some (.slice da D.length dc)∧Z.cell? ⟨w.heap.size,2,none⟩=some (.int .u64 (old:Int))):=fun Z hZ=>by
    obtain⟨_,_,x2,_,_,x5⟩:=(HK.out Z hZ).2.1.six.cells;exact⟨x5,x2⟩
  go_region_held3 (fun Z=>Z.cell? ⟨w.heap.size,5,none⟩=some (.slice da D.length dc)∧Z.cell? ⟨w.heap.size,2,none⟩=some (.int .u64 (old:Int)))
    (exact HC.out _ (by first|exact hb0|exact hb0.drew)) (first
    | (go_at_call 80;with_reducible refine(HO.out _).mono ?_;rintro e w4 ⟨rfl,rfl⟩))
  have hb7:=hb0.drew;obtain⟨W7,hW7⟩:=Ze w3.drew;rw[hW7] at hb7 ⊢;have HK7:Hid (∀Z,Zb W7 Z->Zb w Z∧K3 Z w.heap.size 3 k old size (.slice sa 0 sc) (.slice da D.length dc) 0 ⟨#[]⟩ 0 ⟨#[]⟩∧RdB Z ao g 0 lb zb):=fun Z hZ=>HK.out Z (Qa hb7 hZ)
  clear hW7 hb7 HK HC hb0;have HC7:Hid (∀Z,Zb W7 Z->Z.cell? ⟨w.heap.size,1,none⟩=some (.int .i64 k)∧Z.cell? ⟨w.heap.size,2,none⟩=some (.int .u64 (old:Int))):=fun Z hZ=>by
    obtain⟨_,x1,x2,_,_,x5⟩:=(HK7.out Z hZ).2.1.six.cells;exact⟨x1,x2⟩
  have HP7:Hid (∀Z a b,Zb W7 Z->((Z.setCell ⟨w.heap.size+1,0,none⟩ a).setCell ⟨w.heap.size+1,1,none⟩ b).cell? ⟨w.heap.size,1,none⟩=some (.int .i64 k)∧((Z.setCell ⟨w.heap.size+1,0,none⟩ a).setCell ⟨w.heap.size+1,1,none⟩ b).cell? ⟨w.heap.size,2,none⟩=some (.int .u64 (old:Int))):=fun Z a b hZ=>by
    obtain⟨x1,x2⟩:=HC7.out Z hZ;exact⟨(Lj _ _ _ _ (by simp)).trans ((Lj _ _ _ _ (by simp)).trans x1),(Lj _ _ _ _ (by simp)).trans ((Lj _ _ _ _ (by simp)).trans x2)⟩
  have hb0:=Below.refl W7.heap.size W7
  go_upto_region 7 with (fail)
  go_region_held3 (fun Z=>Z.cell? ⟨w.heap.size,1,none⟩=some (.int .i64 k)∧Z.cell? ⟨w.heap.size,2,none⟩=some (.int .u64 (old:Int)))
    (first|exact HC7.out _ (by first|exact hb0|exact hb0.drew|exact hb8)|exact HP7.out _ _ _ (by first|exact hb0|exact hb0.drew|exact hb8)) (first
    | (go_at_call 81;with_reducible refine(HR1.out _ (HK7.out _ (by first|exact hb0.drew|exact hb0)).1).mono ?_;rintro e w8 ⟨rfl,hb8'⟩
       have hb8:Zb W7 w8:=by first|exact Qa hb0.drew hb8'|exact Qa hb0 hb8'
       have hK8:=HK7.out w8 hb8;obtain⟨k0,k1⟩:=hK8.2.1.r1.cells;have f0:=hK8.2.1.r1.fz))
  all_goals
    have hK9:=hK8.2.1.put1 old r1;have hc9:=QU w8 (w.heap.size+1) old r1;obtain⟨W9,hW9⟩:=Ze (UH w8 (w.heap.size+1) old r1);rw[hW9] at hK9 hc9;unfold UH at hW9;rw[hW9];have hb9:Zb w W9:=hK8.1.trans (hc9.below (by rintro b rfl;omega))
    have hB9:RdB W9 ao g 0 lb zb:=QhC hK8.2.2 (fun h0=>hc9.block g (by
      intro e;exact QmK hK8.2.2 h0 hK8.2.1.r1 e))
    have HK9:Hid (∀Z,Zb W9 Z->Zb w Z∧K3 Z w.heap.size 3 k old size (.slice sa 0 sc) (.slice da D.length dc) old r1 0 ⟨#[]⟩∧RdB Z ao g 0 lb zb):=fun Z hZ=>⟨Qa hb9 hZ,hK9.next hZ,hB9.below hZ⟩
    clear hK9 hc9 hW9 hb9 hB9 HK7 HC7 HP7 hb0 hb8 hb8' hK8 k0 k1 f0 HR1;have HC9:Hid (∀Z,Zb W9 Z->Z.cell? ⟨w.heap.size,0,none⟩=some (.int .i64 3)∧Z.cell? ⟨w.heap.size,1,none⟩=some (.int .i64 k)∧Z.cell? ⟨w.heap.size,2,none⟩=some (.int .u64 (old:Int))∧Z.cell? ⟨w.heap.size,3,none⟩=some (.int .u64 (size:Int))∧Z.cell? ⟨w.heap.size,4,none⟩=some (.slice sa 0 sc)∧Z.cell? ⟨w.heap.size,5,none⟩=some (.slice da D.length dc)):=fun Z hZ=>(HK9.out Z hZ).2.1.six.cells
    have HP9:Hid (∀Y a b,Zb W9 Y -> ∀Z,(Y.setCell ⟨w.heap.size+1+1,0,none⟩ a).setCell ⟨w.heap.size+1+1,1,none⟩ b=Z->Z.cell? ⟨w.heap.size,0,none⟩=some (.int .i64 3)∧Z.cell? ⟨w.heap.size,1,none⟩=some (.int .i64 k)∧Z.cell? ⟨w.heap.size,2,none⟩=some (.int .u64 (old:Int))∧Z.cell? ⟨w.heap.size,3,none⟩=some (.int .u64 (size:Int))∧Z.cell? ⟨w.heap.size,4,none⟩=some (.slice sa 0 sc)∧Z.cell? ⟨w.heap.size,5,none⟩=some (.slice da D.length dc)):=fun Y a b hY Z hZ=>by
      subst hZ;obtain⟨x0,x1,x2,x3,x4,x5⟩:=HC9.out Y hY;exact⟨(Lj _ _ _ _ (by simp)).trans ((Lj _ _ _ _ (by simp)).trans x0),(Lj _ _ _ _ (by simp)).trans ((Lj _ _ _ _ (by simp)).trans x1),(Lj _ _ _ _ (by simp)).trans ((Lj _ _ _ _ (by simp)).trans x2),(Lj _ _ _ _ (by simp)).trans ((Lj _ _ _ _ (by simp)).trans x3),(Lj _ _ _ _ (by simp)).trans ((Lj _ _ _ _ (by simp)).trans x4),(Lj _ _ _ _ (by simp)).trans ((Lj _ _ _ _ (by simp)).trans x5)⟩
    have hb0:=Below.refl W9.heap.size W9
    go_upto_region 8 with (fail)
    go_region_held3 (fun Z=>Z.cell? ⟨w.heap.size,0,none⟩=some (.int .i64 3)∧Z.cell? ⟨w.heap.size,1,none⟩=some (.int .i64 k)∧Z.cell? ⟨w.heap.size,2,none⟩=some (.int .u64 (old:Int))∧Z.cell? ⟨w.heap.size,3,none⟩=some (.int .u64 (size:Int))∧Z.cell? ⟨w.heap.size,4,none⟩=some (.slice sa 0 sc)∧Z.cell? ⟨w.heap.size,5,none⟩=some (.slice da D.length dc))
      (first|exact HC9.out _ (by first|exact hb0|exact hb0.drew|exact hb10|exact hb11)|exact HP9.out _ _ _ (by first|exact hb0|exact hb0.drew|exact hb11) _ rfl) (first
      | (go_at_call 82;with_reducible refine(HJd.out _ _ _ _ (HK9.out _ (by first|exact hb0.drew|exact hb0)).1 (HK9.out _ (by first|exact hb0.drew|exact hb0)).2.2).mono ?_;rintro e w10 ⟨ap,bp,cp,rfl,hR10,hb10'⟩
         have hb10:Zb W9 w10:=by first|exact Qa hb0.drew hb10'|exact Qa hb0 hb10')
      | (go_at_call 81;with_reducible refine(HR2.out _ _ _ _ (HK9.out _ hb10).1 hR10).mono ?_;rintro e w11 ⟨rfl,hb11'⟩
         have hb11:Zb W9 w11:=Qa hb10 hb11';have hK11:=HK9.out w11 hb11;obtain⟨k0,k1⟩:=hK11.2.1.r2.cells;have f0:=hK11.2.1.r2.fz))
    all_goals
      have hK12:=hK11.2.1.put2 size r2;have hc12:=QU w11 (w.heap.size+2) size r2;obtain⟨W12,hW12⟩:=Ze (UH w11 (w.heap.size+2) size r2);rw[hW12] at hK12 hc12;unfold UH at hW12;rw[hW12];have hb12:Zb w W12:=hK11.1.trans (hc12.below (by rintro b rfl;omega))
      obtain⟨x0,x1⟩:=hK12.r1.cells;obtain⟨x2,x3⟩:=hK12.r2.cells;have fa:=hK12.r1.fz;have fb:=hK12.r2.fz;have hK14:=(hK12.put1 old r1).put2 size r2;have hc13:=QU W12 (w.heap.size+1) old r1;have hc14:=QU (UH W12 (w.heap.size+1) old r1) (w.heap.size+2) size r2;unfold UH at hK14 hc13 hc14;obtain⟨y0,y1⟩:=hK14.r1.cells;obtain⟨y2,y3⟩:=hK14.r2.cells;have HB:=Qc ((hb12.trans (hc13.below (by rintro b rfl;omega))).trans (hc14.below (by rintro b rfl;omega)))
      clear hc12 hW12 hb12 hc13 hc14 hK12 HK9 HC9 HP9 hb0 hb10 hb10' hb11 hb11' hK11 k0 k1 f0 HR2 HJd hR10 hK14
      go_upto_region 9 with (fail)
      go_region
      all_goals go_wp2
      all_goals refine bodyPost_ret (v := .tuple #[.agg #[.int .u64 (old:Int),.string r1],.agg #[.int .u64 (size:Int),.string r2],.int .i64 0]) (by simp[results,Tryz.results36,go_sem,y0,y1,y2,y3]) rfl ⟨rfl,?_⟩
      all_goals exact HB.out.drew
theorem QaP(w:World)(m n:Nat)(hm:m<=n)(hn:n<=2^40) :
  Calls Tryz.prog 134 #[.int .u64 (m:Int),.int .u64 (n:Int)] w fun e w' => ∃v,e = .returned v∧Cv.Qz w' w.heap.size v (zl (kb m n))∧Zb w w':=by
 have HM:Hid (∀W,Calls Tryz.prog 40 #[.int .u64 (m:Int)] W fun e w' => ∃ao n1 cap,e = .returned (.tuple #[.slice ao n1 cap,.int .i64 0])∧Cv.Qz w' W.heap.size (.slice ao n1 cap) (zl (cov 0 m))∧Zb W w'):=fun W=>by
  have h:=Cv.YW m W;rw[(Yt (Lf _) (by omega)).1,(Yt (Lf _) (by omega)).2] at h
  refine h.mono fun e w' ⟨v,e1,e2,e3⟩ => ?_
  obtain⟨ao,n1,cap,rfl⟩:=Cv.Qh e2;exact⟨ao,n1,cap,e1,e2,e3⟩
 have HR:Hid (∀W,Calls Tryz.prog 41 #[.int .u64 (m:Int),.int .u64 (n:Int),.int .u64 (n:Int)] W fun e w' => ∃ao n1 cap,e = .returned (.tuple #[.slice ao n1 cap,.int .i64 0])∧Cv.Qz w' W.heap.size (.slice ao n1 cap) (zl (cov m n))∧Zb W w'):=fun W=>by
  have h:=Cv.Qb6 m n n W;rw[(Yt hm hn).1,(Yt hm hn).2] at h;refine h.mono fun e w' ⟨v,e1,e2,e3⟩ => ?_
  obtain⟨ao,n1,cap,rfl⟩:=Cv.Qh e2;exact⟨ao,n1,cap,e1,e2,e3⟩
 have hl:=OB hm hn;have HL:Hid ((zl (cov 0 m)).length+(zl (cov m n)).length<=1048576∧zl (cov 0 m)++zl (cov m n)=zl (kb m n)):=⟨by rw[Cv.Qq,Cv.Qq];rw[kb,Ld] at hl;omega,QlM m n⟩
 clear hm hn hl
 go_enter Tryz.func134,Tryz.ntmps134
 go_wp2_with (first
  | (go_at_call 40;with_reducible refine(HM.out _).mono ?_;rintro e w1 ⟨a1,n1,c1,rfl,h1,hb1⟩)
  | (go_at_call 41;with_reducible refine(HR.out _).mono ?_;rintro e w2 ⟨a2,n2,c2,rfl,h2,hb2⟩)
  | (at_builtin;refine Cv.QO _ rfl _ _ rfl w.heap.size _ (zl (cov 0 m)) rfl (Yf h1 hb2) _ (zl (cov m n)) rfl (Cv.Uo h2) HL.out.1 (Lm hb1.size hb2.size) ?_))
 intro v' w3 o3 g3 _;rw[HL.out.2] at o3;have HF:Hid (Cv.Qz w3 w.heap.size v' (zl (kb m n))∧Zb w w3):=⟨o3,(Qa hb1 hb2).trans ((Below.refl _ _).grown g3 (Lm hb1.size hb2.size) (fun g hg=>(Lq h1 g hg).1))⟩
 obtain⟨a3,n3,c3,rfl⟩:=Cv.Qh o3;clear h1 h2 hb1 hb2 o3 g3;go_wp2
 go_ret
 exact⟨_,rfl,HF.out.1,HF.out.2⟩
theorem QmX(w:World)(o:Obj)(h:Int)(k:Nat):Tw ((w.alloc o).alloc (.cells #[.int .i64 h,.int .u64 (k:Int)] 83)) (w.heap.size+1) h k:=by
 have:=QaG (w.alloc o) h k
 rwa [Lp] at this
theorem Qab(kd K:Int)(old size:Nat)(sa:OA)(ns sc:Nat)(da:OA)(db dO dc:Nat)(D:LB)(hD : ∀d∈D,d.size<=32)(ao:OA)(g cap:Nat)(L:List (Nat×Nat))(hLD:L.length<=D.length)(hm:L.length<=1000)(h k:Nat)(hh:h<=40)(hk:k<2^41)(w:World)(hT:Tr w)(hR:RdS w da db dO D.length D)(hB:RdB w ao g 0 L.length (zl L))(d:BA)(hd:dgK (clk K) L D h k=d)
  (hrec : ∀h0,h=h0+1->(h,k) ∉ L -> ∀W,Zb w W->Calls Tryz.prog 135 #[vP kd K old size (.slice sa ns sc) (.slice da D.length dc),.slice ao L.length cap,.agg #[.int .i64 (h0:Int),.int .u64 ((2*k:Nat):Int)]] W (fun e w'=>e = .returned (.string (dgK (clk K) L D h0 (2*k)))∧Zb W w')∧Calls Tryz.prog 135 #[vP kd K old size (.slice sa ns sc) (.slice da D.length dc),.slice ao L.length cap,.agg #[.int .i64 (h0:Int),.int .u64 ((2*k+1:Nat):Int)]] W (fun e w'=>e = .returned (.string (dgK (clk K) L D h0 (2*k+1)))∧Zb W w')) :
  Zr 135 #[vP kd K old size (.slice sa ns sc) (.slice da D.length dc),.slice ao L.length cap,.agg #[.int .i64 (h:Int),.int .u64 (k:Int)]] w (.string d):=by
 obtain⟨W0,hW0⟩:=Ze ((w.alloc (.cells #[.int .i64 kd,.int .i64 K,.int .u64 (old:Int),.int .u64 (size:Int),.slice sa ns sc,.slice da D.length dc] 55)).alloc (.cells #[.int .i64 (h:Int),.int .u64 (k:Int)] 83));have hb0:Zb w W0:=by rw[<-hW0];exact bal (bal (Below.refl _ _) _) _
 have h6:Six W0 w.heap.size (.int .i64 kd) (.int .i64 K) (.int .u64 (old:Int)) (.int .u64 (size:Int)) (.slice sa ns sc) (.slice da D.length dc):=by rw[<-hW0];exact(QV w _ _ _ _ _ _).next (bal (Below.refl _ _) _)
 have htw:Tw W0 (w.heap.size+1) (h:Int) k:=by rw[<-hW0];exact QmX _ _ _ _
 have HX:Hid (∀Z,Zb W0 Z->Zb w Z∧Tr Z∧RdS Z da db dO D.length D∧RdB Z ao g 0 L.length (zl L)∧Six Z w.heap.size (.int .i64 kd) (.int .i64 K) (.int .u64 (old:Int)) (.int .u64 (size:Int)) (.slice sa ns sc) (.slice da D.length dc)∧Tw Z (w.heap.size+1) (h:Int) k):=fun Z hZ=>by
  have h1:=Qa hb0 hZ;exact⟨h1,hT.next h1,hR.next h1 (Lb _),hB.below h1,h6.next hZ,htw.next hZ⟩
 have HR:Hid (L.length<=D.length∧L.length<=1000∧h<=40∧k<2^41∧dgK (clk K) L D h k=d∧(∀d∈D,d.size<=32)):=⟨hLD,hm,hh,hk,hd,hD⟩;have HRec:=Qc hrec;have HT:Hid (∀W,Zb w W->Tr W):=fun W hb=>hT.next hb
 have hm1:(L.length:Int)<=1000:=by omega
 clear hT hR hB hLD hm hh hk hd h6 htw hb0 hrec hD;unfold vP at HRec;unfold vP
 go_enter Tryz.func135,Tryz.ntmps135;go_wp2
 go_loopg [7] L.length (fun gg i wr => ∃j:Nat,j<=L.length∧gg=L.length - j∧i = .int .i64 (j:Int)∧(∀t,t<j->L.getD t (0,0)≠(h,k))∧Hid (Zb W0 wr))
 case atStart =>
  go_light
  try rw[hW0]
  exact⟨0,Lf _,rfl,rfl,fun t ht=>absurd ht (NC _),Below.refl _ _⟩
 case round =>
  obtain⟨j,hj,rfl,rfl,hno,HI⟩:=hrel;obtain⟨hbw,htr,hrd,hrb,hsix,htw⟩:=HX.out wr HI.out;obtain⟨t0,t1⟩:=htw.cells
  by_cases hlt:j<L.length
  ·have hz:(j:Int)<(L.length:Int):=by omega
   have hz0:(0:Int)<=(j:Int):=Le _;obtain⟨⟨x,y⟩,hxy⟩ : ∃b,L.getD j (0,0)=b:=⟨_,rfl⟩;obtain rfl:=hrb.addr (by omega)
   obtain⟨c0,c1⟩:=hrb.cell j hlt;rw[Uf,hxy] at c0 c1
   dsimp only at c0 c1
   rw[Ll] at c0 c1
   by_cases heq:(x,y)=(h,k)
   ·cases heq;have hltD:j<D.length:=by have:=HR.out.1;omega
    obtain rfl:=hrd.ptr (by omega)
    have hDz:(j:Int)<(D.length:Int):=by omega
    have d0:=hrd.at hltD;have hdd:D.getD j ByteArray.empty=d:=by
     rw[<-HR.out.2.2.2.2.1,Qim hlt hxy hno];rfl
    rw[hdd] at d0;have p5:=hsix.cells.2.2.2.2.2;have HB:=Qc hbw;clear hrb hrd hsix htw hbw hno hxy hdd htr HI
    go_upto_region 4 with (fail)
    go_region
    go_wp2
    go_ret
    exact⟨rfl,HB.out.drew⟩
   ·have HN:Hid (∀t,t<j+1->L.getD t (0,0)≠(h,k)):=fun t ht=>by
     rcases Nu (NI ht) with hx|rfl
     ·exact hno t hx
     ·rw[hxy];exact heq
    have HB:Hid (Zb W0 wr.drew):=HI.out.drew
    by_cases hx:x=h
    ·subst hx;have hy:((y:Int) == (k:Int))=false:=beq_false_of_ne (fun e=>heq (by rw[Int.ofNat.inj e]))
     clear hrb hrd hsix htw hbw hno hxy htr HI heq
     go_upto_region 4 with (fail)
     go_region
     go_wp2
     go_roundg (L.length - (j+1))
     case rel =>
      go_light;exact⟨j+1,by omega,rfl,by go_num,HN.out,HB.out⟩
     case measure=>go_light;omega
    ·have hx:((x:Int) == (h:Int))=false:=beq_false_of_ne (by omega)
     clear hrb hrd hsix htw hbw hno hxy htr HI heq
     go_upto_region 4 with (fail)
     go_region
     go_wp2
     go_roundg (L.length - (j+1))
     case rel =>
      go_light;exact⟨j+1,by omega,rfl,by go_num,HN.out,HB.out⟩
     case measure=>go_light;omega
  ·obtain rfl:j=L.length:=by omega
   have hz : ¬((L.length:Int)<(L.length:Int)):=by omega
   have hnot:(h,k) ∉ L:=fun hin=>by
    obtain⟨t,ht,e⟩:=LZ hin;refine hno t ht ?_
    rw[La,Lc ht];exact e
   cases h with
   | zero =>
    have hdd:(⟨#[]⟩:BA)=d:=by rw[<-HR.out.2.2.2.2.1,Qin hnot]
    subst hdd;clear hrb hrd hsix htw hno hnot htr HI;go_wp2
    go_ret
    exact⟨rfl,hbw⟩
   | succ h0 =>
    obtain⟨dx,hdx⟩:=Ze (dgK (clk K) L D h0 (2*k));obtain⟨dy,hdy⟩:=Ze (dgK (clk K) L D h0 (2*k+1));have hnode:dg (clk K) (QE dx dy)=d:=by rw[<-HR.out.2.2.2.2.1,Qbz hnot,hdx,hdy]
    have hsx:dx.size<=32:=by rw[<-hdx];exact OT (Qx K) HR.out.2.2.2.2.2 _ _
    have hsy:dy.size<=32:=by rw[<-hdy];exact OT (Qx K) HR.out.2.2.2.2.2 _ _
    have HC1:Hid (∀W,Zb w W->Calls Tryz.prog 135 #[.agg #[.int .i64 kd,.int .i64 K,.int .u64 (old:Int),.int .u64 (size:Int),.slice sa ns sc,.slice da D.length dc],.slice ao L.length cap,.agg #[.int .i64 (h0:Int),.int .u64 ((2*k:Nat):Int)]] W (fun e w'=>e = .returned (.string dx)∧Zb W w')):=fun W hb=>by
     rw[<-hdx];exact(HRec.out h0 rfl hnot W hb).1
    have HC2:Hid (∀W,Zb w W->Calls Tryz.prog 135 #[.agg #[.int .i64 kd,.int .i64 K,.int .u64 (old:Int),.int .u64 (size:Int),.slice sa ns sc,.slice da D.length dc],.slice ao L.length cap,.agg #[.int .i64 (h0:Int),.int .u64 ((2*k+1:Nat):Int)]] W (fun e w'=>e = .returned (.string dy)∧Zb W w')):=fun W hb=>by
     rw[<-hdy];exact(HRec.out h0 rfl hnot W hb).2
    have HNd:Hid (∀W,Zb w W->Zr 101 #[.int .i64 K,.string dx,.string dy] W (.string d)):=fun W hb=>JX W (HT.out W hb) K dx dy (by omega) (by omega) d hnode
    have hb40:=HR.out.2.2.1;have hb41:=HR.out.2.2.2.1;obtain⟨p0,p1,p2,p3,p4,p5⟩:=hsix.cells;obtain⟨hs,hhs⟩ : ∃hs:Nat,h0+1=hs:=⟨_,rfl⟩;obtain⟨k2,hk2⟩ : ∃k2:Nat,2*k=k2:=⟨_,rfl⟩;obtain⟨k3,hk3⟩ : ∃k3:Nat,2*k+1=k3:=⟨_,rfl⟩;have ea:IntKind.i64.wrap ((hs:Int) - 1)=(h0:Int):=by rw[LW];omega
    have eb:IntKind.u64.wrap (2*(k:Int))=(k2:Int):=by rw[IntKind.wrap_u64];omega
    have ec:IntKind.u64.wrap ((k2:Int)+1)=(k3:Int):=by rw[IntKind.wrap_u64];omega
    have hne:((hs:Int) == 0)=false:=beq_false_of_ne (by omega)
    rw[hhs] at t0;rw[hk2] at HC1;rw[hk3] at HC2;have HY:Hid (∀Z,Zb wr Z->Zb w Z∧Six Z w.heap.size (.int .i64 kd) (.int .i64 K) (.int .u64 (old:Int)) (.int .u64 (size:Int)) (.slice sa ns sc) (.slice da D.length dc)∧Tw Z (w.heap.size+1) (hs:Int) k):=fun Z hZ=>by
     obtain⟨z1,_,_,_,z2,z3⟩:=HX.out Z (Qa HI.out hZ);rw[hhs] at z3;exact⟨z1,z2,z3⟩
    clear hrb hrd hsix htw hno hnot htr HI HX HRec hdx hdy hnode hsx hsy hb40 hb41 hhs hk2 hk3 HR HT
    go_wp2_with (first
     | (go_at_call 135;with_reducible refine(HC1.out _ hbw).mono ?_;rintro e w5 ⟨rfl,hb5⟩;have hy5:=HY.out w5 hb5;obtain⟨a0,a1,a2,a3,a4,a5⟩:=hy5.2.1.cells;obtain⟨a6,a7⟩:=hy5.2.2.cells)
     | (go_at_call 135;with_reducible refine(HC2.out _ hy5.1).mono ?_;rintro e w6 ⟨rfl,hb6⟩;have hy6:=HY.out w6 (Qa hb5 hb6);obtain⟨_,z1,_⟩:=hy6.2.1.cells)
     | (go_at_call 101;with_reducible refine(HNd.out _ hy6.1).mono ?_;rintro e w7 ⟨rfl,hb7⟩))
    go_ret
    exact⟨rfl,Qa hy6.1 hb7⟩
theorem QeE(kd K:Int)(old size:Nat)(sa:OA)(ns sc:Nat)(da:OA)(db dO dc:Nat)(D:LB)(hD : ∀d∈D,d.size<=32)(ao:OA)(g cap:Nat)(L:List (Nat×Nat))(hLD:L.length<=D.length)(hm:L.length<=1000) : ∀(h:Nat) (k:Nat),h<=40->(k+1)*pw h<=2^41 -> ∀(w:World),Tr w->RdS w da db dO D.length D->RdB w ao g 0 L.length (zl L) -> ∀d,dgK (clk K) L D h k=d ->
  Zr 135 #[vP kd K old size (.slice sa ns sc) (.slice da D.length dc),.slice ao L.length cap,.agg #[.int .i64 (h:Int),.int .u64 (k:Int)]] w (.string d):=by
 intro h
 induction h with
 | zero =>
  intro k _ hk w hT hR hB d hd;rw[Pl.Ue,NN] at hk;exact Qab kd K old size sa ns sc da db dO dc D hD ao g cap L hLD hm 0 k (by decide) (by omega) w hT hR hB d hd (fun h0 e=>by omega)
 | succ h ih =>
  intro k hh hk w hT hR hB d hd;have hp:=Pl.QB (h+1);have h1:k+1<=(k+1)*pw (h+1):=Nm _ hp;have e1:(k+1)*pw (h+1)=(2*k+1+1)*pw h:=by rw[Cv.QJ];congr 1
  have h2:(2*k+1)*pw h<=(2*k+1+1)*pw h:=Lo _ (by omega)
  refine Qab kd K old size sa ns sc da db dO dc D hD ao g cap L hLD hm (h+1) k hh (by omega) w hT hR hB d hd (fun h0 e _ W hb => ?_)
  obtain rfl:h0=h:=by omega
  exact⟨ih (2*k) (by omega) (by omega) W (hT.next hb) (hR.next hb (Lb _)) (hB.below hb) _ rfl,ih (2*k+1) (by omega) (by omega) W (hT.next hb) (hR.next hb (Lb _)) (hB.below hb) _ rfl⟩
end
end Go.Proofs.YtdocjikpcbmcgaaGreatDoor
