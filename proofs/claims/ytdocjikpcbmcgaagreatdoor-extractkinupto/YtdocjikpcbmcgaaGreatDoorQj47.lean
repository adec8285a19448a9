/- Own work. -/
import Derived.Test.YtdocjikpcbmcgaaGreatDoorQj45
import Derived.Test.YtdocjikpcbmcgaaGreatDoorQj46
set_option maxRecDepth 100000
set_option maxHeartbeats 4000000
namespace Go.Proofs.YtdocjikpcbmcgaaGreatDoor
open Go.RowKit
attribute [local go_sem ↓] Go.wp_at_zero Go.wp_at_succ
theorem Qgc(w:World)(ht:Tb w)(hr:Tr w)(k:Int)(pa:OA)(pb po pn pc:Nat)(Pi:LB)(hP:RdS w pa pb po pn Pi)(hpc:pn<=pc)(hpn:pa=none->pc=0)(qa:OA)(qb qo qn qc:Nat)(Qi:LB)(hQ:RdS w qa qb qo qn Qi)(hqc:qn<=qc)(hqn:qa=none->qc=0)(s:BA)(T:Pq)
  (HEx : ∀W pa' pb' po' pc' qa' qb' qo' qc',Zb w W->RdS W pa' pb' po' (Pi.take 150).length (Pi.take 150)->(Pi.take 150).length<=pc'->RdS W qa' qb' qo' (Qi.take 150).length (Qi.take 150)->(Qi.take 150).length<=qc'->Zr 13 #[.int .i64 k,.slice pa' (Pi.take 150).length pc',.slice qa' (Qi.take 150).length qc',.string s] W (tri T))
  (HRe : ∀W,Zb w W->Zr 16 #[.int .i64 k,.slice pa (Pi.take 150).length pc,.slice qa (Qi.take 150).length qc,.string s] W (tri T)) :
  Zr 5 #[.int .i64 k,.agg #[.slice pa pn pc,.slice qa qn qc],.string s] w (.bool true):=by
 obtain⟨hA2,hlA,hmA,hnA⟩:=Qa8 hP;obtain⟨hB2,hlB,hmB,hnB⟩:=Qa8 hQ;obtain⟨A,hAe⟩:=Ze (Pi.take 150);obtain⟨B,hBe⟩:=Ze (Qi.take 150);rw[hAe] at hA2 hlA hmA hnA HEx HRe;rw[hBe] at hB2 hlB hmB hnB HEx HRe;have HFA:Hid (∀W,Calls Tryz.prog 8 #[.slice pa pn pc] W fun e w'=>e = .returned (.slice pa A.length pc)∧w'=W):=fun W=>(Qf4 W pa pn pc hpc _ hlA).mono fun _ _ ⟨a,b⟩=>⟨a,b.symm⟩
 have HFB:Hid (∀W,Calls Tryz.prog 8 #[.slice qa qn qc] W fun e w'=>e = .returned (.slice qa B.length qc)∧w'=W):=fun W=>(Qf4 W qa qn qc hqc _ hlB).mono fun _ _ ⟨a,b⟩=>⟨a,b.symm⟩
 have HAl:Hid (∀W,Zb w W->Zr 7 #[] W (.bool true)):=fun W hb=>Qe4 W (ht.next hb) (hr.next hb)
 have HLA:Hid (∀W,Zb w W->Calls Tryz.prog 15 #[.slice pa A.length pc] W fun e w' => ∃g cap',e = .returned (.slice (some ⟨g,0,none⟩) A.length cap')∧A.length+1<=cap'∧w'.rangeAt g 0 ((A++[UL]).map Value.string)∧Zb W w'):=fun W hb=>Qen W pa pb po A.length pc A (hA2.next hb (Lb _)) (by omega) hpn
 have HLB:Hid (∀W,Zb w W->Calls Tryz.prog 15 #[.slice qa B.length qc] W fun e w' => ∃g cap',e = .returned (.slice (some ⟨g,0,none⟩) B.length cap')∧B.length+1<=cap'∧w'.rangeAt g 0 ((B++[UL]).map Value.string)∧Zb W w'):=fun W hb=>Qen W qa qb qo B.length qc B (hB2.next hb (Lb _)) (by omega) hqn
 have HWA:Hid (∀W g cap',Zb w W->A.length+1<=cap'->W.rangeAt g 0 ((A++[UL]).map Value.string)->Zr 17 #[.slice (some ⟨g,0,none⟩) A.length cap',.slice pa A.length pc] W (.bool true)):=fun W g cap' hb h1 h2=>Qc3 W pa pb po A.length pc A (hA2.next hb (Lb _)) (by omega) g cap' h1 h2
 have HWB:Hid (∀W g cap',Zb w W->B.length+1<=cap'->W.rangeAt g 0 ((B++[UL]).map Value.string)->Zr 17 #[.slice (some ⟨g,0,none⟩) B.length cap',.slice qa B.length qc] W (.bool true)):=fun W g cap' hb h1 h2=>Qc3 W qa qb qo B.length qc B (hB2.next hb (Lb _)) (by omega) g cap' h1 h2
 have HE:=Qc HEx;have HR:=Qc HRe;have HSA:=Qc hA2.sz;have HSB:=Qc hB2.sz;have zA:(A.length:Int)<=150:=by omega
 have zB:(B.length:Int)<=150:=by omega
 obtain⟨W0,hW0,hls,hb0⟩:=QkF w pa pn pc qa qn qc;have HLs:=Qc hls;clear ht hr hP hpc hpn hQ hqc hqn hA2 hlA hmA hnA hB2 hlB hmB hnB hAe hBe hls HEx HRe;obtain⟨k0,k1⟩:=HLs.out.cells
 go_enter Tryz.func5,Tryz.ntmps5
 go_upto_region 1 with (fail)
 try rw[hW0]
 clear hW0
 go_upto_region 3 with (go_at_call 7;with_reducible refine(HAl.out _ hb0).mono ?_;rintro e w1 ⟨rfl,hb1⟩)
 obtain⟨d0,d1⟩:=(HLs.out.next hb1).cells;have hbA:=Qa hb0 hb1;clear k0 k1 HAl;have HB0:Hid (∀t,Zb w (w1.drewN t)):=fun t=>Qd hbA t
 go_quiet (first
  | (go_at_call 8;refine Calls.quiet_of_same (HFA.out _))
  | (go_at_call 8;refine Calls.quiet_of_same (HFB.out _)))
 clear d0 d1 HFA HFB
 go_upto_region 5 with (first
  | (go_at_call 15;with_reducible refine(HLA.out _ (HB0.out _)).mono ?_;rintro e w2 ⟨g2,c2,rfl,hc2,hg2,hb2⟩;have hbW2:Zb w w2:=Qa (HB0.out _) hb2)
  | (go_at_call 15;with_reducible refine(HLB.out _ hbW2).mono ?_;rintro e w3 ⟨g3,c3,rfl,hc3,hg3,hb3⟩))
 have hg23:=Ql hb3 (QM hg2 (by simp)) hg2
 have hbW3:=Qa hbW2 hb3;have HE3:=Qc (HE.out w3 (some ⟨g2,0,none⟩) g2 0 c2 (some ⟨g3,0,none⟩) g3 0 c3 hbW3 (Qb4 hg23 HSA.out) (by omega) (Qb4 hg3 HSB.out) (by omega))
 have HG:=Qc (And.intro hc2 (And.intro hc3 (And.intro hg23 hg3)));clear hg2 hg3 hg23 hc2 hc3 hb2 hb3 hbW2 HB0 hbA HLA HLB HE HSA HSB
 go_upto_region 6 with (go_at_call 13;with_reducible refine HE3.out.mono ?_;rintro e w4 ⟨rfl,hb4⟩)
 go_upto_region 7 with (go_at_call 16;with_reducible refine(HR.out _ (Qa hbW3 hb4)).mono ?_;rintro e w5 ⟨rfl,hb5⟩)
 have hb45:=Qa hb4 hb5;have hA5:=Qc (Ql hb45 (QM HG.out.2.2.1 (by simp)) HG.out.2.2.1)
 have hB5:=Qc (Ql hb45 (QM HG.out.2.2.2 (by simp)) HG.out.2.2.2)
 have hbW5:=Qa hbW3 hb45;clear HE3 HR hb4 hb5 hb45
 go_wp2_with (first
  | (go_at_call 17;with_reducible refine(HWA.out _ g2 c2 hbW5 HG.out.1 hA5.out).mono ?_;rintro e w6 ⟨rfl,hb6⟩)
  | (go_at_call 17;with_reducible refine(HWB.out _ g3 c3 (Qa hbW5 hb6) HG.out.2.1 (Ql hb6 (QM hB5.out (by simp)) hB5.out)).mono ?_;rintro e w7 ⟨rfl,hb7⟩))
 go_ret
 exact⟨rfl,Qa (Qa hbW5 hb6) hb7⟩
section
open Cv (zl cov)
theorem QlI{c:Nat}(hc:c<=32) : ∀(P:LB),(∀s∈P,s.size<=32) -> ∀x∈bx c P,x.size<=100
 | [],_,x,hx=>by cases hx
 | [p],_,x,hx=>by cases hx
 | p::p2::P,h,x,hx=>by
  rw[bx] at hx
  rcases LH.1 hx with rfl|hx
  ·have h1:=h p (Nq ..);have h2:=Yc hc (Lb _) (p2::P) (fun s hs=>h s (LX _ hs))
   rw[Qao];omega
  ·exact QlI hc (p2::P) (fun s hs=>h s (LX _ hs)) x hx
theorem QgF{c n:Nat}(hc:c<=32){P:LB}(hP : ∀s∈P,s.size<=32) : ∀x∈tx c n P,x.size<=9223372036854775807:=fun x hx=>by
 rcases LH.1 hx with rfl|hx
 ·have h2:=Yc hc (Lb _) P hP;rw[OF];omega
 ·have:=QlI hc P hP x hx;omega
theorem Qgp(n:Nat)(hn:n<=2^40)(W:World):Calls Tryz.prog 40 #[.int .u64 (n:Int)] W fun e w' => ∃ao cap,e = .returned (.tuple #[.slice ao (Cv.dnL 41 0 n).length cap,.int .i64 0])∧Cv.Qz w' W.heap.size (.slice ao (Cv.dnL 41 0 n).length cap) (zl (Cv.dnL 41 0 n))∧Zb W w':=by
 have h:=Cv.YW n W;rw[(UM n hn).1,(UM n hn).2] at h;refine h.mono fun e w' ⟨v,e1,e2,e3⟩ => ?_
 obtain⟨ao,m,cap,rfl⟩:=Cv.Qh e2;have hl:=JT e2;rw[Cv.Qq] at hl;subst hl;exact⟨ao,cap,e1,e2,e3⟩
theorem QmM(n:Nat)(hn:n<=2^40)(W:World):Calls Tryz.prog 40 #[.int .u64 (n:Int)] W fun e w' => ∃ao g cap,e = .returned (.tuple #[.slice ao (Cv.dnL 41 0 n).length cap,.int .i64 0])∧RdB w' ao g 0 (Cv.dnL 41 0 n).length (zl (Cv.dnL 41 0 n))∧Zb W w' :=
 (Qgp n hn W).mono fun e w' ⟨ao,cap,e1,e2,e3⟩=>by
  obtain⟨g,hr⟩:=QfD e2 (fun b hb=>Lm (JG n hn b hb) hn)
  exact⟨ao,g,cap,e1,hr,e3⟩
theorem QmN{q:Nat} : ∀ {L:List (Nat×Nat)} {p:Nat},Cv.Row q p L -> ∀b∈L,(b.2+1)*2^b.1<=q:=by
 intro L
 induction L with
 | nil=>intro p _ b hb;cases hb
 | cons a L ih =>
  intro p h b hb
  rcases LH.1 hb with rfl|hb
  ·have:=Qbc h.2.2.2;exact this
  ·exact ih h.2.2.2 b hb
theorem QmP(m n:Nat)(hm:m<=n)(hn:n<=2^40)(W:World):Calls Tryz.prog 41 #[.int .u64 (m:Int),.int .u64 (n:Int),.int .u64 (n:Int)] W fun e w' => ∃ao g cap,e = .returned (.tuple #[.slice ao (cov m n).length cap,.int .i64 0])∧RdB w' ao g 0 (cov m n).length (zl (cov m n))∧Zb W w':=by
 have h:=Cv.Qb6 m n n W;have he:Cv.YK m n n=0:=by rw[Cv.YK,if_neg (by omega),if_neg (by omega),if_neg (by omega)]
 rw[Cv.JC,if_pos he,he] at h;refine h.mono fun e w' ⟨v,e1,e2,e3⟩ => ?_
 obtain⟨ao,l,cap,rfl⟩:=Cv.Qh e2;have hl:=JT e2;rw[Cv.Qq] at hl;subst hl;obtain⟨g,hr⟩:=QfD e2 (fun b hb=>Lm (QmN (Cv.UI m n hm hn) b hb) hn)
 exact⟨ao,g,cap,e1,hr,e3⟩
theorem Qey{c:Nat}{L:LB}(h40:L.length<=2^40):pks c L 41=(Cv.dnL 41 0 L.length).map fun b=>nd c L b.1 b.2:=by
 have:=(U2 c L L.length (Lb _) h40).1;rw[LR,Cv.QH _ h40] at this;exact this.symm
theorem QlP{i h n:Nat}(hi:(i+1)*2^h<=n)(hn:n<=1000):2^(h+1)<=2000:=by
 have:=Lo (2^h) (show 1<=i+1 by omega)
 rw[LA];omega
theorem Qk4(w:World)(hr:Tr w)(k:Int)(pa:OA)(pb po pc:Nat)(old:LB)(hP:RdS w pa pb po old.length old)(hos : ∀s∈old,s.size<=140737488351232)(hpc:old.length<=pc)(qa:OA)(qb qo qc:Nat)(now:LB)(hQ:RdS w qa qb qo now.length now)(hns : ∀s∈now,s.size<=140737488351232)(hqc:now.length<=qc)(hol:old.length<=150)(hnl:now.length<=150)(s:BA)(hs:s.size<=8796093021952)(P:PV)(A:AccK k old.length (rtD (clk k) old old.length) now.length (rtD (clk k) now now.length) s P)(hso : ¬old=now.take old.length)
  (HL : ∀W,Tr W->Zr 37 #[.int .i64 k,.agg #[.int .u64 (old.length:Int),.string (rtD (clk k) old old.length)],.agg #[.int .u64 (now.length:Int),.string (rtD (clk k) now now.length)],.string s] W (.int .i64 0)) :
  Zr 16 #[.int .i64 k,.slice pa old.length pc,.slice qa now.length qc,.string s] w (tri (kinT (clk k) old.length now.length old now P.D (vlC []))):=by
 obtain⟨⟨⟨_,hk⟩,hn40,hmn,_⟩,hf⟩:=A.ok;have hc:=Qx k;have hck:(clk k:Int)=k:=Qbs hk.1 hk.2;have hm40:old.length<=2^40:=Lm hmn hn40;have hcov:cov 0 old.length=Cv.dnL 41 0 old.length:=Cv.QH _ hm40;have hkb:Cv.dnL 41 0 old.length++cov old.length now.length=kb old.length now.length:=by rw[kb,hcov]
 have hD:P.D.length=(kb old.length now.length).length:=hf.1;have hkl:=OB hmn hn40;have hD2:P.D.length=(Cv.dnL 41 0 old.length).length+(cov old.length now.length).length:=by rw[hD,<-hkb,Ld]
 have hdsz : ∀d∈P.D,d.size=clk k:=fun d hd=>by have:=hf.2 d hd;omega
 have hl41:=Cv.YI 41 0 old.length;have hn41:=Cv.YI 41 0 now.length;have T:=QdR A.ok (vlC []);have hxs : ∀h i,(xd (clk k) (ixM (kb old.length now.length)) P.D (vlC []) h i).size<=32:=fun h i=>by rw[UR hc T.lt T.dsz];exact hc
 have hV : ∀i,ixM (kb old.length now.length) 0 i=none->(vlC [] i).size+1<=9223372036854775807:=fun i _=>by
  have:=Qm5 (l:=[]) (N:=0) (fun x hx=>by cases hx) i
  omega
 have h1K : ∀e∈(kb old.length now.length).zip P.D,e∈(kb old.length now.length).zip P.D∨(e.1 ∉ kb old.length now.length∧e.1.1=0∧False∧e.2=dg (clk k) (Qm (vlC [] e.1.2))):=fun e he => .inl he
 have HT:=QmW (c:=clk k) (V:=vlC []) (Q:=fun _=>False) T.nodup T.len h1K (fun e he=>he)
 have hKb : ∀e∈(kb old.length now.length).zip P.D,e.1.1<=40∧e.1.2<2^40∧e.2.size<=32:=fun e he=>by
  obtain⟨j,hj,rfl⟩:=YT hD he;have h1:=T.fit _ (Q5 hj);have h2:=hdsz _ (QI (show j<P.D.length by omega))
  exact⟨h1.1,h1.2,by simp only;omega⟩
 have hZl:((kb old.length now.length).zip P.D).length<=1000:=by rw[QdX hD];omega
 have hP1s : ∀x∈(Cv.dnL 41 0 old.length).map (fun b=>nd (clk k) old b.1 b.2),x.size<=32:=fun x hx=>by obtain⟨b,_,rfl⟩:=LE.1 hx;rw[QD hc];exact hc
 have hP2s : ∀x∈(Cv.dnL 41 0 now.length).map (fun b=>nd (clk k) now b.1 b.2),x.size<=32:=fun x hx=>by obtain⟨b,_,rfl⟩:=LE.1 hx;rw[QD hc];exact hc
 have hP3s : ∀x∈(Cv.dnL 41 0 now.length).map (fun b=>xd (clk k) (ixM (kb old.length now.length)) P.D (vlC []) b.1 b.2),x.size<=32:=fun x hx=>by obtain⟨b,_,rfl⟩:=LE.1 hx;exact hxs _ _
 have hDs : ∀x∈P.D.take (Cv.dnL 41 0 old.length).length,x.size<=32:=fun x hx=>by rw[hdsz x (LJ hx)];exact hc
 have hDl:(P.D.take (Cv.dnL 41 0 old.length).length).length=(Cv.dnL 41 0 old.length).length:=by rw[Lv];omega
 have htop : ∀ {n:Nat} {R:LB},n<=150->R.length<=41->(∀x∈R,x.size<=32) -> ∀W ta tb tc,Zb w W->RdS W ta tb 0 R.length R->R.length<=tc->Calls Tryz.prog 43 #[.int .i64 k,.int .u64 (n:Int),.slice ta R.length tc] W fun e w' => ∃v,e = .returned v∧Qk w' W.heap.size v (tx (clk k) n R)∧Zb W w' :=
  fun {n R} h1 h2 h3 W ta tb tc hb hR hc'=>rtop_any W (hr.next hb) k n (by omega) ta tb 0 tc R hR hc' (by omega) h3 _ rfl
 have big : ∀ {L:LB},(∀x∈L,x.size<=32) -> ∀x∈L,x.size<=9223372036854775807:=fun h x hx=>by have:=h x hx;omega
 have sO : ∀j,(old.getD j ByteArray.empty).size+1<=9223372036854775807:=fun j=>by have:=Oe hos j;omega
 have sN : ∀j,(now.getD j ByteArray.empty).size+1<=9223372036854775807:=fun j=>by have:=Oe hns j;omega
 have inO : ∀b∈Cv.dnL 41 0 old.length,(b.2+1)*2^b.1<=old.length:=JG _ hm40;have inN : ∀b∈Cv.dnL 41 0 now.length,(b.2+1)*2^b.1<=now.length:=JG _ hn40;have lN : ∀b∈Cv.dnL 41 0 now.length,(ra (clk k) now (ixM (kb old.length now.length)) b.1 b.2).length<=2000:=fun b hb=>by
  have h1:=Qay (clk k) now (ixM (kb old.length now.length)) b.1 b.2;have h2:=QlP (inN b hb) (by omega)
  omega
 have lO : ∀b∈Cv.dnL 41 0 old.length,(ra (clk k) old (fun _ _=>none) b.1 b.2).length<=2000:=fun b hb=>by
  have h1:=Qay (clk k) old (fun _ _=>none) b.1 b.2
  have h2:=QlP (inO b hb) (by omega)
  omega
 refine rk_not w k pa old.length pc qa now.length qc (by omega) (by omega) s _ _ (fun W hb => ?_) (fun W hb => ?_) old.length now.length (Cv.dnL 41 0 old.length) (cov old.length now.length) (Cv.dnL 41 0 now.length) P.D
  ((Cv.dnL 41 0 old.length).map fun b:Nat×Nat=>nd (clk k) old b.1 b.2) ((Cv.dnL 41 0 now.length).map fun b:Nat×Nat=>nd (clk k) now b.1 b.2) ((Cv.dnL 41 0 now.length).map fun b:Nat×Nat=>xd (clk k) (ixM (kb old.length now.length)) P.D (vlC []) b.1 b.2)
  _ _ _ _ (fun b=>ra (clk k) now (ixM (kb old.length now.length)) b.1 b.2) (fun b=>rb (clk k) (ixM (kb old.length now.length)) P.D (vlC []) b.1 b.2) (fun b=>ra (clk k) old (fun _ _=>none) b.1 b.2) (fun b=>rb (clk k) (fun _ _=>none) [] (fun i=>now.getD i ByteArray.empty) b.1 b.2)
  hD2 hl41 (by rw[<-hkb,Ld] at hkl;omega) hn41 (fun b hb=>Lm (inN b hb) hn40) (big hP1s) (big hP2s) (big hP3s)
  ⟨QgF hc hP1s,by rw[QaH,Ln];omega⟩ ⟨QgF hc hDs,by rw[QaH];omega⟩ ⟨QgF hc hP2s,by rw[QaH,Ln];omega⟩ ⟨QgF hc hP3s,by rw[QaH,Ln];omega⟩
  (fun b hb=>⟨lN b hb,QcK hc (by decide) sN _ _⟩) (fun b hb=>⟨by rw[<-(rab (clk k) now (ixM (kb old.length now.length)) P.D (vlC []) b.1 b.2).1];exact lN b hb,QcN hxs (by decide) hV _ _⟩)
  (fun b hb=>⟨lO b hb,QcK hc (by decide) sO _ _⟩) (fun b hb=>⟨by rw[<-(rab (clk k) old (fun _ _=>none) [] (fun i=>now.getD i ByteArray.empty) b.1 b.2).1];exact lO b hb,QcN (fun h i=>by rw[Qc5,QD hc];exact hc) (by decide) (fun i _=>sN i) _ _⟩)
  _ (kin_rows (vlC []) A).symm (fun W hb=>HL W (hr.next hb)) (fun W hb => ?_) (fun W => ?_) (fun W=>QmM _ hm40 W) (fun W=>QmP _ _ hmn hn40 W) (fun W=>Qgp _ hn40 W) (fun W hb => ?_) (fun W hb => ?_) (fun W ao g cap hb hR => ?_)
  (fun W ta tb tc hb hR hc'=>htop (by omega) (by rw[Ln];exact hl41) hP1s W ta tb tc hb hR hc') (fun W ta tb tc hb hR hc' => ?_) (fun W ta tb tc hb hR hc'=>htop (by omega) (by rw[Ln];exact hn41) hP2s W ta tb tc hb hR hc') (fun W ta tb tc hb hR hc'=>htop (by omega) (by rw[Ln];exact hn41) hP3s W ta tb tc hb hR hc') (fun W ao g cap j hb hR hj => ?_) (fun W j hb hj => ?_)
 ·exact Qaf W (hr.next hb) k hk.1 hk.2 pa pb po old.length pc old (hP.next hb (Lb _)) hos (by omega) hpc old.length (Lb _) _ rfl
 ·exact Qaf W (hr.next hb) k hk.1 hk.2 qa qb qo now.length qc now (hQ.next hb (Lb _)) hns (by omega) hqc now.length (Lb _) _ rfl
 ·exact QaO W pa pb po pc old (hP.next hb (Lb _)) qa qb qo qc now (hQ.next hb (Lb _)) (by omega) (by omega) false (decide_eq_false hso)
 ·refine(Up s (Jg s hs) P A.hd W).mono fun e w' ⟨sa,sb,sc,da,db,dc,g1,g2,g3⟩=>⟨P.kd,P.k,sa,P.S.length,sc,da,db,dc,?_,g2.rd,g2.cD,g3⟩
  rw[A.old,A.size] at g1;exact g1
 ·exact OG W (hr.next hb) k pa pb po old.length pc old (hP.next hb (Lb _)) hos (by omega) hpc _ (Qey hm40)
 ·exact OG W (hr.next hb) k qa qb qo now.length qc now (hQ.next hb (Lb _)) hns (by omega) hqc _ (Qey hn40)
 ·rw[hkb] at hR ⊢;refine Qk8 W (hr.next hb) k now.length hn40 ao g cap _ hR (by omega) T.fn hKb _ _ rfl (Ln ..) (fun j hj => ?_)
  rw[QbS (fun b=>xd (clk k) (ixM (kb old.length now.length)) P.D (vlC []) b.1 b.2) (0,0) _ _ _ hj]
  exact T.tl _ (Q5 hj)
 ·have hdt:=Uk hR (H:=(Cv.dnL 41 0 old.length).length) (by omega)
  have:=htop (n:=old.length) (R:=P.D.take (Cv.dnL 41 0 old.length).length) (by omega) (by omega) hDs W ta tb tc hb hdt (by omega)
  rwa [hDl] at this
 ·rw[hkb] at hR ⊢;have hm:=Q5 hj;exact Qfv W (hr.next hb) k qa qb qo qc now (hQ.next hb (Lb _)) hns hqc ao g cap _ hR (by omega) T.fn hKb (ixM (kb old.length now.length)) P.D (vlC []) HT (Qmv hD) hxs hV now.length (Lb _) (by omega) (by omega) _ (Oq (inN _ hm) hn40).2.1 _ W _ (Below.refl _ _) (inN _ hm) (T.tl _ hm)
 ·have hm:=Q5 hj;exact QhA W (hr.next hb) k pa pb po pc old (hP.next hb (Lb _)) hos hpc qa qb qo qc now (hQ.next hb (Lb _)) hns hqc old.length (Lb _) hmn (by omega) (by omega) (by omega) _ (Oq (inO _ hm) hm40).2.1 _ W (Below.refl _ _) (inO _ hm)
theorem QiX(w:World)(ht:Tb w)(hr:Tr w)(k:Int)(pa:OA)(pb po pn pc:Nat)(Pi:LB)(hP:RdS w pa pb po pn Pi)(hps : ∀s∈Pi,s.size<=140737488351232)(hpc:pn<=pc)(hpn:pa=none->pc=0)(qa:OA)(qb qo qn qc:Nat)(Qi:LB)(hQ:RdS w qa qb qo qn Qi)(hqs : ∀s∈Qi,s.size<=140737488351232)(hqc:qn<=qc)(hqn:qa=none->qc=0)(s:BA)(hs:s.size<=8796093021952) :
  Zr 5 #[.int .i64 k,.agg #[.slice pa pn pc,.slice qa qn qc],.string s] w (.bool true):=by
 obtain⟨hA2,hlA,hmA,hnA⟩:=Qa8 hP;obtain⟨hB2,hlB,hmB,hnB⟩:=Qa8 hQ;have hos : ∀s∈Pi.take 150,s.size<=140737488351232:=fun s hs=>hps s (LJ hs)
 have hns : ∀s∈Qi.take 150,s.size<=140737488351232:=fun s hs=>hqs s (LJ hs)
 have hpc':(Pi.take 150).length<=pc:=by omega
 have hqc':(Qi.take 150).length<=qc:=by omega
 by_cases hk:1<=k∧k<=32
 ·obtain⟨c1,c2,r,T,hc1,hc2,X,HL⟩:=QiE k (Pi.take 150) (Qi.take 150) (by omega) (by omega) hos hns s hs hk
  have HRA:Hid (∀V,Zb w V->Zr 9 #[.int .i64 k,.slice pa (Pi.take 150).length pc,.int .u64 ((Pi.take 150).length:Int)] V (.tuple #[.agg #[.int .u64 ((Pi.take 150).length:Int),.string c1],.int .i64 0])):=fun V hb=>Qaf V (hr.next hb) k hk.1 hk.2 pa pb po _ pc _ (hA2.next hb (Lb _)) hos (by omega) hpc' _ (Lb _) _ hc1
  have HRB:Hid (∀V,Zb w V->Zr 9 #[.int .i64 k,.slice qa (Qi.take 150).length qc,.int .u64 ((Qi.take 150).length:Int)] V (.tuple #[.agg #[.int .u64 ((Qi.take 150).length:Int),.string c2],.int .i64 0])):=fun V hb=>Qaf V (hr.next hb) k hk.1 hk.2 qa qb qo _ qc _ (hB2.next hb (Lb _)) hns (by omega) hqc' _ (Lb _) _ hc2
  refine Qgc w ht hr k pa pb po pn pc Pi hP hpc hpn qa qb qo qn qc Qi hQ hqc hqn s T (fun W pa' pb' po' pc' qa' qb' qo' qc' hb h1 h2 h3 h4=>X.ext W pa' pb' po' pc' qa' qb' qo' qc' (ht.next hb) h1 h2 h3 h4) (fun W hb => ?_)
  have hrW:=hr.next hb;have hAW:=hA2.next hb (Lb _);have hBW:=hB2.next hb (Lb _);have RA:Hid (∀V,Zb W V->Zr 9 #[.int .i64 k,.slice pa (Pi.take 150).length pc,.int .u64 ((Pi.take 150).length:Int)] V (.tuple #[.agg #[.int .u64 ((Pi.take 150).length:Int),.string c1],.int .i64 0])):=fun V hV=>HRA.out V (Qa hb hV)
  have RB:Hid (∀V,Zb W V->Zr 9 #[.int .i64 k,.slice qa (Qi.take 150).length qc,.int .u64 ((Qi.take 150).length:Int)] V (.tuple #[.agg #[.int .u64 ((Qi.take 150).length:Int),.string c2],.int .i64 0])):=fun V hV=>HRB.out V (Qa hb hV)
  by_cases h0:r=0
  ·subst h0;obtain⟨_,P,A,x1,x2⟩:=X.yes rfl
   by_cases hso:Pi.take 150=(Qi.take 150).take (Pi.take 150).length
   ·rw[x1 hso];exact Qnw W k pa _ pc qa _ qc (by omega) (by omega) s c1 c2 RA RB (fun V hV=>HL V (hrW.next hV)) (fun V hV=>QaO V pa pb po pc _ (hAW.next hV (Lb _)) qa qb qo qc _ (hBW.next hV (Lb _)) (by omega) (by omega) true (decide_eq_true hso))
   ·rw[x2 hso];rw[<-hc1,<-hc2] at HL;exact Qk4 W hrW k pa pb po pc _ hAW hos hpc' qa qb qo qc _ hBW hns hqc' (by omega) (by omega) s hs P A hso HL
  ·rw[X.no h0];exact Qnv W k pa _ pc qa _ qc (by omega) (by omega) s c1 c2 RA RB r h0 (fun V hV=>HL V (hrW.next hV))
 ·have hk':k<1∨32<k:=by omega
  obtain⟨o1,c1,o2,c2,r,T,X⟩:=Qkp k (Pi.take 150) (Qi.take 150) (by omega) (by omega) hos hns s (Lm hs (by decide))
  refine Qgc w ht hr k pa pb po pn pc Pi hP hpc hpn qa qb qo qn qc Qi hQ hqc hqn s T (fun W pa' pb' po' pc' qa' qb' qo' qc' hb h1 h2 h3 h4=>X.ext W pa' pb' po' pc' qa' qb' qo' qc' (ht.next hb) h1 h2 h3 h4) (fun W hb => ?_)
  rw[X.no (X.bad hk)];exact QmL W k hk' pa _ pc qa _ qc (by omega) (by omega) s
end
end Go.Proofs.YtdocjikpcbmcgaaGreatDoor
