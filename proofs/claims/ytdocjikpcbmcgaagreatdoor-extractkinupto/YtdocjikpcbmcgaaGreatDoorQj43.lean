/- Own work. -/
import Derived.Test.YtdocjikpcbmcgaaGreatDoorQj42
set_option maxRecDepth 100000
set_option maxHeartbeats 2000000
namespace Go.Proofs.YtdocjikpcbmcgaaGreatDoor
open Go.RowKit
attribute [local go_sem ↓] Go.wp_at_zero Go.wp_at_succ
theorem QcI{w:World}{g b j:Nat}{v:Value}(y:Pq)(h:w.cell? ⟨b,j,none⟩=some v)(hn:b≠g):(OC w g y).cell? ⟨b,j,none⟩=some v:=by
 have hch:=Ud w g y;generalize OC w g y=V at hch ⊢;exact(Lr (a:=⟨b,j,none⟩) (hch.block b hn)).trans h
theorem Qjh{w0 w:World}{p:Nat}(h:P3 w p none)(y:Pq)(hb:Zb w0 w)(hp:w0.heap.size<=p) : ∃V,OC w p y=V∧P3 V p y∧Zb w0 V :=
 ⟨_,rfl,h.put y,hb.trans ((Ud w p y).below (by rintro b rfl;exact hp))⟩
section
variable (w:World) (k:Int) (pa:OA) (pn pc:Nat) (qa:OA) (qn qc:Nat) (s:BA) (o1:Nat) (c1:BA) (o2:Nat) (c2:BA)
  (HC1:Hid (∀W,Zb w W->Zr 23 #[.int .i64 k,.slice pa pn pc] W (.agg #[.int .u64 (o1:Int),.string c1])))
  (HC2:Hid (∀W,Zb w W->Zr 23 #[.int .i64 k,.slice qa qn qc] W (.agg #[.int .u64 (o2:Int),.string c2])))
include HC1 HC2
theorem Qiy(r:Int)(hr:r≠0)
  (HL:Hid (∀W,Zb w W->Zr 14 #[.int .i64 k,.agg #[.int .u64 (o1:Int),.string c1],.agg #[.int .u64 (o2:Int),.string c2],.string s] W (.int .i64 r))) :
  Zr 13 #[.int .i64 k,.slice pa pn pc,.slice qa qn qc,.string s] w (tri none):=by
 have hz:(r != 0)=true:=by simpa using hr
 have hz2 : ¬r=0:=hr;clear hr
 go_enter Tryz.func13,Tryz.ntmps13
 go_wp2_with (first
  | (go_at_call 23;with_reducible refine(HC2.out _ hb1).mono ?_;rintro e w2 ⟨rfl,hb2⟩)
  | (go_at_call 23;with_reducible refine(HC1.out _ (Below.refl _ _)).mono ?_;rintro e w1 ⟨rfl,hb1⟩)
  | (go_at_call 14;with_reducible refine(HL.out _ (Qa hb1 hb2)).mono ?_;rintro e w3 ⟨rfl,hb3⟩))
 exact bodyPost_ret (v:=tri none) (by simp[results,Tryz.results13,go_sem,pA,pB']) rfl ⟨rfl,Qa (Qa hb1 hb2) hb3⟩
theorem Qmi
  (HL:Hid (∀W,Zb w W->Zr 14 #[.int .i64 k,.agg #[.int .u64 (o1:Int),.string c1],.agg #[.int .u64 (o2:Int),.string c2],.string s] W (.int .i64 0)))
  (HS:Hid (∀W,Zb w W->Zr 32 #[.slice pa pn pc,.slice qa qn qc] W (.bool true))) :
  Zr 13 #[.int .i64 k,.slice pa pn pc,.slice qa qn qc,.string s] w (tri none):=by
 go_enter Tryz.func13,Tryz.ntmps13
 go_wp2_with (first
  | (go_at_call 23;with_reducible refine(HC2.out _ hb1).mono ?_;rintro e w2 ⟨rfl,hb2⟩)
  | (go_at_call 23;with_reducible refine(HC1.out _ (Below.refl _ _)).mono ?_;rintro e w1 ⟨rfl,hb1⟩)
  | (go_at_call 14;with_reducible refine(HL.out _ (Qa hb1 hb2)).mono ?_;rintro e w3 ⟨rfl,hb3⟩)
  | (go_at_call 32;with_reducible refine(HS.out _ (Qa (Qa hb1 hb2) hb3)).mono ?_;rintro e w4 ⟨rfl,hb4⟩))
 exact bodyPost_ret (v:=tri none) (by simp[results,Tryz.results13,go_sem,pA,pB']) rfl ⟨rfl,Qa (Qa (Qa hb1 hb2) hb3) hb4⟩
theorem ekn_not (P:PV) (R:LB) (hRD:R.length<=P.D.length) (hRs : ∀x∈R,x.size<=9223372036854775807) (hDl:P.D.length<=8796093022208) (T1 T2 T3 T:Pq) (hT:T1.or (T2.or T3)=T)
    (HL:Hid (∀W,Zb w W->Zr 14 #[.int .i64 k,.agg #[.int .u64 (o1:Int),.string c1],.agg #[.int .u64 (o2:Int),.string c2],.string s] W (.int .i64 0)))
    (HS:Hid (∀W,Zb w W->Zr 32 #[.slice pa pn pc,.slice qa qn qc] W (.bool false)))
    (HD:Hid (∀W,Calls Tryz.prog 25 #[.string s] W fun e w' => ∃sa sb sc da db dc,e = .returned (.tuple #[vP P.kd P.k P.old P.size (.slice sa P.S.length sc) (.slice da P.D.length dc),.int .i64 0])∧RdF w' sa sb sc da db dc P∧Zb W w'))
    (HPk:Hid (∀W,Zb w W->Calls Tryz.prog 33 #[.int .i64 k,.slice pa pn pc] W fun e w' => ∃v,e = .returned v∧Qk w' W.heap.size v R∧Zb W w'))
    (HAb:Hid (∀W ra rb rc da db dc,Zb w W->RdS W ra rb 0 R.length R->R.length<=rc->(ra=none->rc=0)->RdS W da db 0 P.D.length P.D->P.D.length<=dc->(da=none->dc=0)->Zr 34 #[.int .i64 k,.int .u64 (P.old:Int),.slice ra R.length rc,.slice da R.length dc] W (pv T1)))
    (HO:Hid (∀W sa sb sc da db dc,Zb w W->RdF W sa sb sc da db dc P->Zr 26 #[vP P.kd P.k P.old P.size (.slice sa P.S.length sc) (.slice da P.D.length dc),.slice qa qn qc,.slice none 0 0] W (pv T2)))
    (HW:Hid (∀W,Zb w W->Zr 35 #[wkV k (lsV k pa pn pc none) 69 (lsV k qa qn qc none),.int .u64 (P.old:Int)] W (pv T3))) :
    Zr 13 #[.int .i64 k,.slice pa pn pc,.slice qa qn qc,.string s] w (tri T):=by
  obtain⟨kd,kk,old,size,S,D⟩:=P;simp only[vP] at HD HO HAb HW hRD hDl
  go_enter Tryz.func13,Tryz.ntmps13
  go_upto_region 4 with (first
    | (go_at_call 23;with_reducible refine(HC2.out _ hb1).mono ?_;rintro e w2 ⟨rfl,hb2⟩)
    | (go_at_call 23;with_reducible refine(HC1.out _ (Below.refl _ _)).mono ?_;rintro e w1 ⟨rfl,hb1⟩)
    | (go_at_call 14;with_reducible refine(HL.out _ (Qa hb1 hb2)).mono ?_;rintro e w3 ⟨rfl,hb3⟩)
    | (go_at_call 32;with_reducible refine(HS.out _ (Qa (Qa hb1 hb2) hb3)).mono ?_;rintro e w4 ⟨rfl,hb4⟩)
    | (go_at_call 25;with_reducible refine(HD.out _).mono ?_;rintro e w5 ⟨sa,sb,sc,da,db,dc,rfl,hF,hb5⟩))
  obtain⟨F,hFe,h6,hb6,_⟩:=Yu w5 (.int .i64 kd) (.int .i64 kk) (.int .u64 (old:Int)) (.int .u64 (size:Int)) (.slice sa S.length sc) (.slice da D.length dc)
  try rw[hFe]
  clear hFe;have hbF:=Qa (Qa (Qa (Qa (Qa hb1 hb2) hb3) hb4) hb5) hb6;have hF6:=hF.next hb6;clear hF hb1 hb2 hb3 hb4 hb5 hb6 HC1 HC2 HL HS HD
  go_upto_region 5 with (go_at_call 33;with_reducible refine(HPk.out _ hbF).mono ?_;rintro e w7 ⟨v7,rfl,o7,hb7⟩)
  obtain⟨ra,rb,rc,rfl,hR,hrc,hrn⟩:=Qn o7 hRs;have hF7:=hF6.next hb7;have h67:=h6.next hb7;have hb7':=Qa hbF hb7;have HX:Hid (∀V,Zb w7 V->V.cell? ⟨w5.heap.size,2,none⟩=some (.int .u64 (old:Int))∧V.cell? ⟨w5.heap.size,5,none⟩=some (.slice da D.length dc)):=fun V hb=>⟨(h67.next hb).cells.2.2.1,(h67.next hb).cells.2.2.2.2.2⟩
  obtain⟨c2',c5⟩:=HX.out w7 (Below.refl _ _);have HA:Hid (∀W,Zb w7 W->Zr 34 #[.int .i64 k,.int .u64 (old:Int),.slice ra R.length rc,.slice da R.length dc] W (pv T1)):=fun W hb=>HAb.out W ra rb rc da db dc (Qa hb7' hb) (hR.next hb (Lb _)) hrc hrn ((hF7.next hb).p.rd) hF7.p.cD hF7.nD
  have z1:(R.length:Int)<=(D.length:Int):=by omega
  have z2:(D.length:Int)<=(dc:Int):=by have:=hF7.p.cD;simp only at this;omega
  have z3:(R.length:Int)<=(dc:Int):=by omega
  have z4:(D.length:Int)<=8796093022208:=by omega
  have HK:=Qc (And.intro hF7 (And.intro h67 hb7'));clear hF6 hF7 h6 h67 hbF hb7 hb7' o7 hR hrc hrn hRD hRs HAb HPk hDl;have HP:Hid (∀V:World,P3 (V.alloc (.cells #[.string ⟨#[]⟩,.string ⟨#[]⟩,.bool false] 59)) V.heap.size none):=fun V=>by obtain⟨F2,e2,h2,_⟩:=Jp V;rw[e2];exact h2
  have hn9:=(Below.refl w7.heap.size w7).drew;have hc9:=(bal (Below.refl w7.heap.size w7) (.cells #[.string ⟨#[]⟩,.string ⟨#[]⟩,.bool false] 59)).drew;have hd9:=(Below.refl (w7.alloc (.cells #[.string ⟨#[]⟩,.string ⟨#[]⟩,.bool false] 59)).heap.size (w7.alloc (.cells #[.string ⟨#[]⟩,.string ⟨#[]⟩,.bool false] 59))).drew;have HQ:Hid (∀(V:World) (g:Nat) (y:Pq),Zb w7 V->w7.heap.size<=g->(OC V g y).cell? ⟨w5.heap.size,2,none⟩=some (.int .u64 (old:Int))∧(OC V g y).cell? ⟨w5.heap.size,5,none⟩=some (.slice da D.length dc)):=fun V g y hb hg=>by
    obtain⟨q0,q1⟩:=HX.out V hb;have hl:=HK.out.2.1.lt;exact⟨QcI y q0 (by omega),QcI y q1 (by omega)⟩
  have he9:=bal (Below.refl w7.heap.size w7) (.cells #[.string ⟨#[]⟩,.string ⟨#[]⟩,.bool false] 59)
  go_region_held3 (fun V=>V.cell? ⟨w5.heap.size,2,none⟩=some (.int .u64 (old:Int))∧V.cell? ⟨w5.heap.size,5,none⟩=some (.slice da D.length dc))
    (first|with_reducible exact HQ9.out|with_reducible exact HX.out _ hn9|with_reducible exact HX.out _ hc9|with_reducible exact HX.out _ he9|with_reducible exact HX.out _ (Below.refl _ _))
    (first
    | (go_at_call 34;with_reducible refine(HA.out _ hc9).mono ?_;rintro e w8 ⟨rfl,hb8⟩;replace hc9:=Qa hc9 hb8;replace hd9:=Qa hd9 hb8;have h39:=(HP.out w7).next hd9;have HQ9:=Qc (HQ.out _ _ T1 hc9 (Lb _));obtain⟨r0,r1,r2⟩:=h39.cells;have rf:=h39.fz;simp only[pA,pB',Option.isSome_none] at r0 r1 r2)
    | (go_at_call 34;with_reducible refine(HA.out _ hn9).mono ?_;rintro e w8 ⟨rfl,hb8⟩;replace hn9:=Qa hn9 hb8;replace hc9:=bal hn9 (.cells #[.string ⟨#[]⟩,.string ⟨#[]⟩,.bool false] 59);have h39:=HP.out w8;have HQ9:=Qc (HX.out _ (bal hn9 (.cells #[.string (pA T1),.string (pB' T1),.bool (Option.isSome T1)] 59)));obtain⟨r0,r1,r2⟩:=h39.cells;have rf:=h39.fz;simp only[pA,pB',Option.isSome_none] at r0 r1 r2))
  all_goals
    first
    | (obtain⟨G,hGe,h3,hbG,hpl⟩ : ∃G,((w8.setCell ⟨w7.heap.size,0,none⟩ (.string (pA T1))).setCell ⟨w7.heap.size,1,none⟩ (.string (pB' T1))).setCell ⟨w7.heap.size,2,none⟩ (.bool (Option.isSome T1))=G∧P3 G w7.heap.size T1∧Zb w7 G∧(w5.heap.size<w7.heap.size∧w7.heap.size<=w7.heap.size):=⟨_,rfl,h39.put T1,hc9.trans ((Ud w8 w7.heap.size T1).below (by rintro b rfl;exact Lb _)),HK.out.2.1.lt,Lb _⟩
       rw[hGe])
    | (obtain⟨G,hGe,h3,hbG,_⟩:=Qft w8 T1
       replace hbG:=Qa hn9 hbG;have hpl:w5.heap.size<w8.heap.size∧w7.heap.size<=w8.heap.size:=⟨LS HK.out.2.1.lt hn9.size,hn9.size⟩;rw[hGe])
    clear hGe h39 hc9 HQ9 HQ he9 rf r0 r1 r2 hb8;obtain⟨e0,e1,e2⟩:=h3.cells;have HG:=Qc (And.intro h3 (And.intro hbG hpl));clear h3 hbG hpl hn9
    cases T1 with
    | some y =>
      obtain rfl:some y=T:=hT;simp only[pA,pB',Option.isSome_some] at e0 e1 e2
      go_upto_region 10 with (fail)
      go_quiet (fail)
      go_wp2;exact bodyPost_ret (v:=tri (some y)) (by simp[results,Tryz.results13,go_sem,pA,pB']) rfl ⟨rfl,Qd (Qa HK.out.2.2 HG.out.2.1) _⟩
    | none =>
      simp only[pA,pB',Option.isSome_none] at e0 e1 e2;replace hT:T2.or T3=T:=hT;obtain⟨c0,c1,c2,c3,c4,c5⟩:=(HK.out.2.1.next HG.out.2.1).cells
      go_upto_region 7 with (fail)
      go_upto_region 8 with (go_at_call 26;with_reducible refine(HO.out _ sa sb sc da db dc (Qa HK.out.2.2 HG.out.2.1) (HK.out.1.next HG.out.2.1)).mono ?_;rintro e w9 ⟨rfl,hb9⟩;have h9:=HG.out.1.next hb9;obtain⟨r0,r1,r2⟩:=h9.cells;have rf:=h9.fz;simp only[pA,pB',Option.isSome_none] at r0 r1 r2)
      obtain⟨V,hV,hq,hbq⟩:=Qjh h9 T2 (Qa HG.out.2.1 hb9) HG.out.2.2.2;unfold OC at hV;rw[hV];clear hV e0 e1 e2 r0 r1 r2 rf h9 hb9 c0 c1 c2 c3 c4 c5 HO;obtain⟨e0,e1,e2⟩:=hq.cells;have HV:=Qc (And.intro hq (And.intro hbq HG.out.2.2));clear hq hbq HG
      cases T2 with
      | some y =>
        obtain rfl:some y=T:=hT;simp only[pA,pB',Option.isSome_some] at e0 e1 e2
        go_upto_region 10 with (fail)
        go_quiet (fail)
        go_wp2;exact bodyPost_ret (v:=tri (some y)) (by simp[results,Tryz.results13,go_sem,pA,pB']) rfl ⟨rfl,Qd (Qa HK.out.2.2 HV.out.2.1) _⟩
      | none =>
        simp only[pA,pB',Option.isSome_none] at e0 e1 e2;replace hT:T3=T:=hT;subst hT;have cz:=(HX.out V HV.out.2.1).1
        go_upto_region 9 with (fail)
        go_upto_region 10 with (go_at_call 35;with_reducible refine(HW.out _ (Qa HK.out.2.2 HV.out.2.1)).mono ?_;rintro e w9 ⟨rfl,hb9⟩;have h9:=HV.out.1.next hb9;obtain⟨r0,r1,r2⟩:=h9.cells;have rf:=h9.fz;simp only[pA,pB',Option.isSome_none] at r0 r1 r2)
        obtain⟨U,hU,hq,hbq⟩:=Qjh h9 T3 (Qa HV.out.2.1 hb9) HV.out.2.2.2;unfold OC at hU;rw[hU];clear hU e0 e1 e2 r0 r1 r2 rf h9 hb9;obtain⟨e0,e1,e2⟩:=hq.cells;have HB:Hid (∀t,Zb w (U.drewN t)):=fun t=>Qd (Qa HK.out.2.2 hbq) t
        clear hq hbq
        go_quiet (fail)
        go_wp2;exact bodyPost_ret (v:=tri T3) (by simp[results,Tryz.results13,go_sem]) rfl ⟨rfl,HB.out _⟩
end
section
open Cv (cov)
theorem QdL{w:World}(ht:Tb w){k:Int}{pa:OA}{pb po pc:Nat}{old:LB}(hp:RdS w pa pb po old.length old)(hps : ∀s∈old,s.size<=140737488351232){qa:OA}{qb qo qc:Nat}{now:LB}(hq:RdS w qa qb qo now.length now)(hqs : ∀s∈now,s.size<=140737488351232)(hm:old.length<=now.length)(hn:now.length<=1099511627776) :
  SdL w k old (fun _ _=>none) [] (fun i=>now.getD i ByteArray.empty) (fun i=>i<old.length) (lsV k pa old.length pc none) (lsV k qa now.length qc none):=by
 refine⟨ht,fun W h i hb hh hi => ?_,fun W h i hb hh hi hq' => ?_,hps,fun i _ => ?_,fun h i j e=>(by cases e),fun d hd=>(by cases hd),by omega⟩
 ·exact QbP W (ht.next hb) k pa pb po pc old (hp.next hb (Lb _)) hps (by omega) none (fun _ _=>none) (.inr ⟨rfl,fun _ _=>rfl⟩) h i hh hi _ rfl
 ·exact QbP W (ht.next hb) k qa qb qo qc now (hq.next hb (Lb _)) hqs (by omega) none (fun _ _=>none) (.inr ⟨rfl,fun _ _=>rfl⟩) h i hh (by omega) _ rfl
 ·have:=Oe hqs i
  show(now.getD i ByteArray.empty).size<_
  omega
structure KinX(k:Int)(old now:LB)(s:BA)(o1:Nat)(c1:BA)(o2:Nat)(c2:BA)(r:Int)(T:Pq):Prop where
 ext : ∀W pa pb po pc qa qb qo qc,Tb W->RdS W pa pb po old.length old->old.length<=pc->RdS W qa qb qo now.length now->now.length<=qc->Zr 13 #[.int .i64 k,.slice pa old.length pc,.slice qa now.length qc,.string s] W (tri T)
 light : ∀W,Tb W->Zr 14 #[.int .i64 k,.agg #[.int .u64 (o1:Int),.string c1],.agg #[.int .u64 (o2:Int),.string c2],.string s] W (.int .i64 r)
 good:1<=k->k<=32->(o1=old.length∧c1=rtD (clk k) old old.length)∧(o2=now.length∧c2=rtD (clk k) now now.length)
 no:r≠0->T=none
 bad : ¬(1<=k∧k<=32)->r≠0
 yes:r=0->(1<=k∧k<=32) ∧ ∃P,AccK k old.length (rtD (clk k) old old.length) now.length (rtD (clk k) now now.length) s P∧(old=now.take old.length->T=none)∧(¬old=now.take old.length->T=kinT (clk k) old.length now.length old now P.D (vlC []))
theorem Qek(k:Int)(hk:1<=k∧k<=32)(old now:LB)(ho:old.length<=1099511627776)(hn:now.length<=1099511627776)(hos : ∀s∈old,s.size<=140737488351232)(hns : ∀s∈now,s.size<=140737488351232)(s:BA)(hs:s.size<=281474976710656)(c1:BA)(hc1:rtD (clk k) old old.length=c1)(c2:BA)(hc2:rtD (clk k) now now.length=c2)(r:Int)
  (h1 : ∀W,Tb W->Zr 14 #[.int .i64 k,.agg #[.int .u64 (old.length:Int),.string c1],.agg #[.int .u64 (now.length:Int),.string c2],.string s] W (.int .i64 r))
  (h2:r=0 -> ∃P,AccK k old.length c1 now.length c2 s P) : ∃T,KinX k old now s old.length c1 now.length c2 r T:=by
 have hcm : ∀ {L:LB} (c:BA),L.length<=1099511627776->(∀s∈L,s.size<=140737488351232)->rtD (clk k) L L.length=c -> ∀ {W la lb lo lc},Tb W->RdS W la lb lo L.length L->L.length<=lc->Hid (∀V,Zb W V->Zr 23 #[.int .i64 k,.slice la L.length lc] V (.agg #[.int .u64 (L.length:Int),.string c])):=fun {L} c hm hsz hc {W la lb lo lc} ht hr hlc V hb=>QfY V (ht.next hb) k hk.1 hk.2 la lb lo lc L (hr.next hb (Lb _)) hsz hm hlc c hc
 by_cases h0:r=0
 ·subst h0;obtain⟨P,A⟩:=h2 rfl;obtain⟨⟨⟨_,hk'⟩,hn40,hmn,_⟩,hf⟩:=A.ok
  by_cases hso:old=now.take old.length
  ·refine⟨none,fun W pa pb po pc qa qb qo qc ht hp hpc hq hqc => ?_,h1,fun _ _=>⟨⟨rfl,hc1.symm⟩,rfl,hc2.symm⟩,fun _=>rfl,fun h=>absurd hk h,fun _=>⟨hk,P,by rw[hc1,hc2];exact A,fun _=>rfl,fun h=>absurd hso h⟩⟩
   refine Qmi W k pa old.length pc qa now.length qc s old.length c1 now.length c2 (hcm c1 ho hos hc1 ht hp hpc) (hcm c2 hn hns hc2 ht hq hqc) (fun V hb=>h1 V (ht.next hb)) (fun V hb => ?_)
   exact Qbm V pa pb po pc old (hp.next hb (Lb _)) qa qb qo qc now (hq.next hb (Lb _)) hqc hmn hn true (decide_eq_true hso)
  ·refine⟨_,fun W pa pb po pc qa qb qo qc ht hp hpc hq hqc => ?_,h1,fun _ _=>⟨⟨rfl,hc1.symm⟩,rfl,hc2.symm⟩,fun h=>absurd rfl h,fun h=>absurd hk h,fun _=>⟨hk,P,by rw[hc1,hc2];exact A,fun h=>absurd h hso,fun _=>rfl⟩⟩
   have hc:=Qx k;have hck:(clk k:Int)=k:=Qbs hk.1 hk.2;have hm40:old.length<=2^40:=Lm hmn hn40;have hcov:cov 0 old.length=Cv.dnL 41 0 old.length:=Cv.QH _ hm40;have hD:P.D.length=(kb old.length now.length).length:=hf.1;have hkbl:=OB hmn hn40;have hkl:(Cv.dnL 41 0 old.length).length<=P.D.length:=by rw[hD,kb,Ld,hcov];omega
   have hdsz : ∀d∈P.D,d.size=clk k:=fun d hd=>by have:=hf.2 d hd;omega
   have hpk:pks (clk k) old 41=(Cv.dnL 41 0 old.length).map fun b=>nd (clk k) old b.1 b.2:=by
    have:=(U2 (clk k) old old.length (Lb _) hm40).1;rw[LR,hcov] at this;exact this.symm
   have hRl:((Cv.dnL 41 0 old.length).map fun b=>nd (clk k) old b.1 b.2).length=(Cv.dnL 41 0 old.length).length:=Ln ..
   have hl41:=Cv.YI 41 0 old.length;have hRs : ∀x∈(Cv.dnL 41 0 old.length).map fun b=>nd (clk k) old b.1 b.2,x.size<=32:=fun x hx=>by obtain⟨b,_,rfl⟩:=LE.1 hx;rw[QD hc];exact hc
   refine ekn_not W k pa old.length pc qa now.length qc s old.length c1 now.length c2 (hcm c1 ho hos hc1 ht hp hpc) (hcm c2 hn hns hc2 ht hq hqc) P ((Cv.dnL 41 0 old.length).map fun b=>nd (clk k) old b.1 b.2) (by omega) (fun x hx=>by have:=hRs x hx;omega) (by omega) _ _ _ _ rfl (fun V hb=>h1 V (ht.next hb)) (fun V hb => ?_) (fun V=>(UJ V s hs P A.hd).mono fun e w' ⟨sa,sb,sc,da,db,dc,h1,h2,_,h3⟩=>⟨sa,sb,sc,da,db,dc,h1,h2,h3⟩) (fun V hb => ?_) (fun V ra rb rc da db dc hb hR hrc hrn hDr hdc hdn => ?_) (fun V sa sb sc da db dc hb hF => ?_) (fun V hb => ?_)
   ·exact Qbm V pa pb po pc old (hp.next hb (Lb _)) qa qb qo qc now (hq.next hb (Lb _)) hqc hmn hn false (decide_eq_false hso)
   ·exact QcG V (ht.next hb) k pa pb po old.length pc old (hp.next hb (Lb _)) hos (by omega) _ hpk
   ·rw[A.old];have hdt:=Uk hDr (H:=(Cv.dnL 41 0 old.length).length) hkl;rw[Lv,N6 hkl,<-hRl] at hdt;exact aboveall_any V (ht.next hb) k old.length ra rb 0 rc _ hR hrc hrn da db 0 dc (P.D.take (Cv.dnL 41 0 old.length).length) (by rw[hRl] at hdt ⊢;exact hdt) (by omega) hdn (by omega) hRs (fun x hx=>by rw[hdsz x (LJ hx)];exact hc) _ rfl
   ·have T:=QdR A.ok (vlC []);rw[A.kd,A.hk,A.old,A.size];refine QaL V 3 k old.length now.length _ da P.D.length dc qa now.length qc none 0 0 (kb old.length now.length) T.fit (by omega) T.nodup (fun V' hb'=>Ql1 V' k old.length now.length hmn hn40 _ _) _ (fun V' mb hb' hM => ?_)
    have S:=Qaj (k:=k) (la:=qa) (lc:=qc) (dc:=dc) (ca:=none) (cb:=0) (co:=0) (cc:=0) (l:=[]) ((ht.next hb).next hb') ((hq.next hb (Lb _)).next hb' (Lb _)) hns hn T (by omega) (hF.next hb').p.rd (QkY V' none) (by simp) (by simp[ixs,Asc]) (fun x hx=>by cases hx) (fun i hi=>hi.elim) hM
    exact Qc2 S now.length (Lb _) _ rfl T.vis _ rfl
   ·rw[A.old];have S:=QdL (k:=k) (pc:=pc) (qc:=qc) (ht.next hb) (hp.next hb (Lb _)) hos (hq.next hb (Lb _)) hns hmn hn;refine QhX S old.length (Lb _) _ rfl (fun b hbm=>QjS _ _ _ ?_) _ rfl
    have:=(U2 (clk k) old old.length (Lb _) hm40).2;rw[hcov] at this;exact this b hbm
 ·refine⟨none,fun W pa pb po pc qa qb qo qc ht hp hpc hq hqc => ?_,h1,fun _ _=>⟨⟨rfl,hc1.symm⟩,rfl,hc2.symm⟩,fun _=>rfl,fun h=>absurd hk h,fun h=>absurd h h0⟩
  exact Qiy W k pa old.length pc qa now.length qc s old.length c1 now.length c2 (hcm c1 ho hos hc1 ht hp hpc) (hcm c2 hn hns hc2 ht hq hqc) r h0 (fun V hb=>h1 V (ht.next hb))
theorem Qkp(k:Int)(old now:LB)(ho:old.length<=1099511627776)(hn:now.length<=1099511627776)(hos : ∀s∈old,s.size<=140737488351232)(hns : ∀s∈now,s.size<=140737488351232)(s:BA)(hs:s.size<=281474976710656) : ∃o1 c1 o2 c2 r T,KinX k old now s o1 c1 o2 c2 r T:=by
 by_cases hk:1<=k∧k<=32
 ·obtain⟨c1,hc1⟩:=Ze (rtD (clk k) old old.length);obtain⟨c2,hc2⟩:=Ze (rtD (clk k) now now.length);obtain⟨r,h1,h2⟩:=Qgb k old.length c1 now.length c2 s hs;obtain⟨T,hT⟩:=Qek k hk old now ho hn hos hns s hs c1 hc1 c2 hc2 r h1 h2;exact⟨_,_,_,_,r,T,hT⟩
 ·have hk':k<1∨32<k:=by omega
  obtain⟨r,h1,h2⟩:=Qgb k 0 ⟨#[]⟩ 0 ⟨#[]⟩ s hs;have h0:r≠0:=fun h=>by
   obtain⟨P,A⟩:=h2 h;exact hk ⟨A.k1,A.k2⟩
  refine⟨0,⟨#[]⟩,0,⟨#[]⟩,r,none,fun W pa pb po pc qa qb qo qc ht hp hpc hq hqc => ?_,h1,fun a b=>absurd ⟨a,b⟩ hk,fun _=>rfl,fun _=>h0,fun h=>absurd h h0⟩
  exact Qiy W k pa old.length pc qa now.length qc s 0 ⟨#[]⟩ 0 ⟨#[]⟩ (fun V hb=>Qd7 V k hk' pa old.length pc ho) (fun V hb=>Qd7 V k hk' qa now.length qc hn) r h0 (fun V hb=>h1 V (ht.next hb))
end
theorem QiU(k:Int)(o1:Nat)(c1:BA)(o2:Nat)(c2:BA)(s:BA)(hs:s.size<=8796093021952) : ∃r:Int,
  (∀W,Tb W->Zr 14 #[.int .i64 k,.agg #[.int .u64 (o1:Int),.string c1],.agg #[.int .u64 (o2:Int),.string c2],.string s] W (.int .i64 r)) ∧
  (∀W,Tr W->Zr 37 #[.int .i64 k,.agg #[.int .u64 (o1:Int),.string c1],.agg #[.int .u64 (o2:Int),.string c2],.string s] W (.int .i64 r)) ∧
  (r=0 -> ∃P,AccK k o1 c1 o2 c2 s P):=by
 have hs2:s.size<=281474976710656:=Lm hs (by decide)
 by_cases h0:tkE k s=0
 ·obtain⟨⟨k1,k2⟩,P,hd,hk⟩:=QeX h0;have hD:P.D.length<=8796093022208:=by have:=(QL (J9 hd).1.1).hc;omega
  by_cases h3:P.kd=3
  ·by_cases h1:okK P.kd k P.old P.size P.S.length P.D
   ·have hns:P.S.length=0:=h1.1.2.2.2;have h1':=h1;rw[h3,hns] at h1';have hD32 : ∀d∈P.D,d.size<=32:=fun d hd=>by have:=h1.2.2 d hd;have:=h1.1.1.2;omega
    refine⟨kinD P.old (kOld (clk k) P.old P.D) P.size (kNow (clk k) P.size (dgK (clk k) (kb P.old P.size) P.D)) 0 o1 c1 o2 c2,fun W hT => ?_,fun W hT => ?_,fun h => ?_⟩
    ·refine O1 W k k1 k2 o1 c1 o2 c2 s hs2 P hd hk _ _ _ _ 0 (fun V sa sb sc da db dc hb hF => ?_) _ rfl
     rw[h3,hns];exact kroots_ok V (hT.next hb) k P.old P.size sa sc da db 0 dc P.D hF.p.rd hF.p.cD h1' _ (QiQ (Qx k) (JO h1.1.2.2.1 h1.1.2.1) hD32) _ _ rfl rfl
    ·refine QeJ W k k1 k2 o1 c1 o2 c2 s hs P hd hk h3 _ _ _ _ 0 (fun V sa sb sc da db dc hb hF => ?_) _ rfl
     rw[hns];exact rroots_ok V (hT.next hb) k P.old P.size sa sc da db 0 dc P.D hF.rd hF.cD h1' _ _ rfl rfl
    ·unfold kinD at h
     split at h
     ·rename_i hh
      obtain⟨_,⟨a1,a2⟩,b1,b2⟩:=hh;subst a1 b1;exact⟨P,k1,k2,hd,hk,h3,rfl,rfl,hns,h1',a2,b2⟩
     ·cases h
   ·refine⟨kinD 0 ⟨#[]⟩ 0 ⟨#[]⟩ 150 o1 c1 o2 c2,fun W hT => ?_,fun W hT => ?_,fun h => ?_⟩
    ·exact O1 W k k1 k2 o1 c1 o2 c2 s hs2 P hd hk 0 ⟨#[]⟩ 0 ⟨#[]⟩ 150 (fun V sa sb sc da db dc hb hF=>Qas V P.kd k P.old P.size sa P.S.length sc da db 0 dc P.D hF.p.rd hD h1) _ rfl
    ·refine QeJ W k k1 k2 o1 c1 o2 c2 s hs P hd hk h3 0 ⟨#[]⟩ 0 ⟨#[]⟩ 150 (fun V sa sb sc da db dc hb hF => ?_) _ rfl
     have h1':=h1;rw[h3] at h1';exact QhH V 3 k P.old P.size sa P.S.length sc da db 0 dc P.D hF.rd hD h1'
    ·rw[kinD,if_neg (fun h=>absurd h.1 (by decide))] at h
     cases h
  ·refine⟨150,fun W hT => ?_,fun W hT=>QhF W k k1 k2 o1 c1 o2 c2 s hs P hd h3,fun h=>by cases h⟩
   exact O1 W k k1 k2 o1 c1 o2 c2 s hs2 P hd hk 0 ⟨#[]⟩ 0 ⟨#[]⟩ 150 (fun V sa sb sc da db dc hb hF=>Qas V P.kd k P.old P.size sa P.S.length sc da db 0 dc P.D hF.p.rd hD (fun h=>h3 h.1.1.1)) _ (by rw[kinD,if_neg (fun h=>absurd h.1 (by decide))])
 ·exact⟨tkE k s,fun W _=>QiW W k o1 c1 o2 c2 s hs2 _ rfl h0,fun W _=>Qk5 W k o1 c1 o2 c2 s hs _ rfl h0,fun h=>absurd h h0⟩
theorem QiE(k:Int)(old now:LB)(ho:old.length<=1099511627776)(hn:now.length<=1099511627776)(hos : ∀s∈old,s.size<=140737488351232)(hns : ∀s∈now,s.size<=140737488351232)(s:BA)(hs:s.size<=8796093021952)(hk:1<=k∧k<=32) : ∃c1 c2 r T,rtD (clk k) old old.length=c1∧rtD (clk k) now now.length=c2∧KinX k old now s old.length c1 now.length c2 r T∧(∀W,Tr W->Zr 37 #[.int .i64 k,.agg #[.int .u64 (old.length:Int),.string c1],.agg #[.int .u64 (now.length:Int),.string c2],.string s] W (.int .i64 r)):=by
 obtain⟨c1,hc1⟩:=Ze (rtD (clk k) old old.length);obtain⟨c2,hc2⟩:=Ze (rtD (clk k) now now.length);obtain⟨r,h1,h2,h3⟩:=QiU k old.length c1 now.length c2 s hs;obtain⟨T,hT⟩:=Qek k hk old now ho hn hos hns s (Lm hs (by decide)) c1 hc1 c2 hc2 r h1 h3
 exact⟨c1,c2,r,T,hc1,hc2,hT,h2⟩
def gen{α:Type}(f:Nat->α)(n:Nat):Nat->List α
 | 0=>[]
 | h+1=>(if n / 2^h % 2=1 then [f h] else [])++gen f n h
theorem Qf7(c:Nat)(L:LB) : ∀h,gen (fun s=>nd c L s (L.length / 2^s - 1)) L.length h=pks c L h
 | 0=>rfl
 | h+1=>by rw[gen,pks,Qf7 c L h]
theorem Qdn{α β:Type}(g:α->β)(f:Nat->α)(n:Nat) : ∀h,(gen f n h).map g=gen (fun s=>g (f s)) n h
 | 0=>rfl
 | h+1=>by
  rw[gen,gen,LK,Qdn g f n h]
  by_cases e:n / 2^h % 2=1
  ·rw[if_pos e,if_pos e];rfl
  ·rw[if_neg e,if_neg e];rfl
theorem QbH{α:Type}{f:Nat->α}{n h:Nat}(e:n / 2^h % 2≠1):gen f n (h+1)=gen f n h:=by rw[gen,if_neg e];rfl
theorem Qdp{α:Type}{f:Nat->α}{n h:Nat}(e:n / 2^h % 2=1):gen f n (h+1)=f h::gen f n h:=by rw[gen,if_pos e];rfl
theorem QbI{α:Type}{f:Nat->α}{n s:Nat} : ∀d,n % 2^(s+d)<2^s->gen f n (s+d)=gen f n s
 | 0,_=>rfl
 | d+1,h=>by
  have hs:2^s<=2^(s+d):=L5 (by decide) (by omega)
  have h2:n % 2^(s+(d+1)) / 2^(s+d) % 2≠1:=QgO (by omega)
  rw[QfW (by omega)] at h2
  rw[show s+(d+1)=s+d+1 by omega,QbH h2]
  refine QbI d ?_
  have:n % 2^(s+d)=n % 2^(s+(d+1)) % 2^(s+d):=by
   rw[show s+(d+1)=(s+d)+1 by omega,LA,Nat.mod_mul_right_mod]
  rw[this,Nx (LS h hs)];exact h
theorem QiH{α:Type}{f:Nat->α}{n g s:Nat}(h1:2^s<=n % 2^g)(h2:n % 2^g<2^(s+1)):gen f n g=f s::gen f n s:=by
 obtain⟨hsg,e2,e1,_⟩:=QgD h1 h2;obtain⟨d,rfl⟩ : ∃d,g=s+1+d:=⟨g - s - 1,by omega⟩
 rw[QbI d (by rw[e1,<-e1];exact h2),Qdp e2]
theorem QiI{α:Type}{f:Nat->α}{n g:Nat}(h:n % 2^g=0):gen f n g=[]:=by
 have:=QbI (f:=f) (n:=n) (s:=0) g (by rw[Ll,h];decide)
 rw[Ll] at this;rw[this,gen]
theorem Qdm{α:Type}(f:Nat->α)(n:Nat) : ∀h,(gen f n h).length<=h
 | 0=>Lb _
 | h+1=>by
  have:=Qdm f n h
  by_cases e:n / 2^h % 2=1
  ·rw[Qdp e,Lu];omega
  ·rw[QbH e];omega
theorem Qdo{n:Nat} : ∀h s,s∈gen id n h->s<h∧n / 2^s % 2=1
 | 0,s,hs=>by cases hs
 | h+1,s,hs=>by
  by_cases e:n / 2^h % 2=1
  ·rw[Qdp e] at hs
   rcases LH.1 hs with rfl|hs
   ·exact⟨Im _,e⟩
   ·have:=Qdo h s hs;exact⟨by omega,this.2⟩
  ·rw[QbH e] at hs;have:=Qdo h s hs;exact⟨by omega,this.2⟩
def cP:List (Nat×Nat)->List Value
 | []=>[]
 | p::r => .int .i64 (p.1:Int) :: .int .i64 (p.2:Int)::cP r
theorem Ql4(l m:List (Nat×Nat)):cP (l++m)=cP l++cP m:=by
 induction l with
 | nil=>rfl
 | cons b r ih=>simp[cP,ih]
theorem Ql5(l:List (Nat×Nat))(j:Nat)(hj:j<l.length):(cP l)[j*2]? = some (.int .i64 ((l.getD j (0,0)).1:Int))∧(cP l)[j*2+1]? = some (.int .i64 ((l.getD j (0,0)).2:Int)):=by
 induction l generalizing j with
 | nil=>simp at hj
 | cons b r ih =>
  cases j with
  | zero=>exact⟨rfl,rfl⟩
  | succ j =>
   have:=ih j (by simpa using hj)
   rw[show(j+1)*2=j*2+1+1 by omega]
   simpa [cP] using this
theorem Tryz.infoP:(Tryz.prog.info? 101).map (fun i=>(i.zero,i.size,i.bytes))=some (some (.agg #[.int .i64 0,.int .i64 0]),2,16):=by kernel_rfl
def OwnP(w:World)(B:Nat)(v:Value)(l:List (Nat×Nat)):Prop:=w.ownsRow B 101 2 v l.length (cP l)
theorem QcF{w W:World}{B:Nat}{v:Value}{l:List (Nat×Nat)}(h:OwnP w B v l)(hb:Zb w W):OwnP W B v l:=by
 obtain⟨h1,h2⟩:=h;refine⟨h1,?_⟩
 rcases h2 with h2|⟨g,cap,cur,rfl,hg,hh,r⟩
 ·exact .inl h2
 ·exact .inr ⟨g,cap,cur,rfl,hg,by rw[hb.block g (Lg.1 hh).1];exact hh,r⟩
theorem Qja(w:World)(B:Nat):OwnP w B (.slice none 0 0) []:=⟨rfl,.inl ⟨rfl,rfl⟩⟩
theorem Qhp{w:World}{B g n cap:Nat}{l:List (Nat×Nat)}(h:OwnP w B (.slice (some ⟨g,0,none⟩) n cap) l){j:Nat}(hj:j<l.length):w.cell? ⟨g,j*2,none⟩=some (.int .i64 ((l.getD j (0,0)).1:Int))∧w.cell? ⟨g,j*2+1,none⟩=some (.int .i64 ((l.getD j (0,0)).2:Int)):=by
 obtain⟨k1,k2⟩:=Ql5 l j hj;have h1:=World.ownsRow.cells h (g:=g) rfl _ _ k1;have h2:=World.ownsRow.cells h (g:=g) rfl _ _ k2;rw[Addr.add_mid,Ll] at h1 h2;exact⟨h1,h2⟩
theorem QaV(w:World){ops:Array Oper}{rest:List Oper}{o:Oper}{a:Act}{Q:Exit->Act->World->Prop}
  (hg:o.guard=none) (s x:Operand) (hop:o.op=Op.call { callee:=Callee.builtin Builtin.append,args:=#[s,x],argTypes:=#[99,99] })
  (B:Nat) (v:Value) (L:List (Nat×Nat)) (w0:World) (p q:Nat) (hw:w=w0.alloc (.cells #[.int .i64 (p:Int),.int .i64 (q:Int)] 101)) (hs:a.eval s=v) (hown:OwnP w B v L) (hx:a.eval x = .slice (some ⟨w0.heap.size,0,none⟩) 1 1)
  (hlen:L.length+1<=1048576) (hB:B<=w.heap.size)
  (hK : ∀v' w',OwnP w' B v' (L++[(p,q)])->Below B w w'->wpList Tryz.prog ops Q rest (a.put o.dst v') w'):wpList Tryz.prog ops Q (o::rest) a w:=by
 obtain⟨i0,hi,hz0,hz1,hz2⟩:=info_parts Tryz.infoP;have hlt : ∀k,v.ownBlock=some k->B<=k:=by
  obtain⟨_,h2⟩:=hown
  rcases h2 with ⟨rfl,_⟩|⟨g,cp,cur,rfl,hg,_⟩
  ·intro k hk;cases hk
  ·intro k hk;cases hk;exact hg
 have hnews : ∀j u,([.int .i64 (p:Int),.int .i64 (q:Int)]:List Value)[j]? = some u->w.cell? ((⟨w0.heap.size,0,none⟩:Addr).add j)=some u:=by
  subst hw;exact World.news_of_block (cs:=#[.int .i64 (p:Int),.int .i64 (q:Int)]) (t:=101) (fr:=(0,0)) (heap_alloc_new w0 _)
 refine wpList_append_own w hg s x _ hop B 101 i0 (.agg #[.int .i64 0,.int .i64 0]) 2 16 Tryz.underlying99 hi hz0 hz1 hz2 rfl (by decide) _ _ _ hs hown ⟨w0.heap.size,0,none⟩ 1 1 [.int .i64 (p:Int),.int .i64 (q:Int)] hx rfl hnews (by intro u hu;simp at hu;rcases hu with rfl|rfl <;> rfl) (by unfold maxLen;omega) (by omega) hB ?_
 intro v' w' h1 h2 _;refine hK v' w' ?_ ((Below.refl _ _).grown h2 hB hlt)
 rw[OwnP,Ld,Ql4];exact h1
def mtP(n s:Nat):Nat×Nat:=((n / 2^s - 1)*2^s,2^s)
theorem Yq(w:World)(n:Nat)(hn:n<=1099511627776)(P:List (Nat×Nat))(hP:Hid (gen (mtP n) n 41=P)) :
  Calls Tryz.prog 54 #[.int .i64 (n:Int)] w fun e w' => ∃v,e = .returned v∧OwnP w' w.heap.size v P∧Zb w w':=by
 have hb:=Below.refl w.heap.size w;have HS:Hid ([]++gen (mtP n) n 41=P):=by rw[NQ];exact hP
 have HPl:Hid (P.length<=41):=by show _<=_;rw[<-hP.out];exact Qdm _ _ _
 have HN:Hid (n<=1099511627776):=hn;have hn':(n:Int)<=1099511627776:=by omega
 clear hn hP
 go_enter Tryz.func54,Tryz.ntmps54;go_wp2
 go_loopg [3,4] n (fun gg v a wr => ∃(g t:Nat) (A:List (Nat×Nat)),t<=n∧gg=n - t∧a = .int .i64 (t:Int)∧Hid (t+n % 2^g=n∧A++gen (mtP n) n g=P)∧OwnP wr w.heap.size v A∧Zb w wr)
 case atStart =>
  go_light;exact⟨41,0,[],Lf _,rfl,rfl,⟨by have:=HN.out;omega,HS.out⟩,Qja _ _,hb⟩
 case round =>
  clear hb HS;obtain⟨g,t,A,htn,rfl,rfl,HE,ho,hb⟩:=hrel;have ht0:(0:Int)<=(t:Int):=Le _
  by_cases hlt:t<n
  ·have hlt':(t:Int)<(n:Int):=by omega
   have HX:Hid (OwnP wr w.heap.size u3 A∧Zb w wr∧t<n):=⟨ho,hb,hlt⟩;obtain⟨m,hm⟩:=Ze (n - t);have em:IntKind.i64.wrap ((n:Int) - (t:Int))=(m:Int):=by rw[LW];omega
   have HMn:Hid (t+m=n):=by show _=_;omega
   clear ho hb htn hlt hm;go_wp2
   go_loopg [5] 64 (fun gg zv wx => ∃(h z:Nat),h<=64∧gg=64 - h∧zv = .int .i64 (z:Int)∧Hid (2^h=z∧z<=m)∧wr=wx)
   case atStart =>
    go_light;exact⟨0,1,by omega,rfl,rfl,⟨rfl,by have:=HX.out.2.2;have:=HMn.out;omega⟩,rfl⟩
   case round =>
    obtain⟨h,z,hh64,rfl,rfl,HH,rfl⟩:=hrel;have hz:=HH.out;have hmm:=HMn.out;have hnn:=HN.out;have hh40:h<=40:=by
     apply I7
     intro h9;have:=L5 (n:=2) (by decide) (show 41<=h from h9)
     omega
    obtain⟨q,hq⟩:=Ze (2*z);have e1:IntKind.i64.wrap (2*(z:Int))=(q:Int):=by rw[LW];omega
    by_cases hgo:q<=m
    ·have hgo':(q:Int)<=(m:Int):=by omega
     have HY:Hid (2^(h+1)=q∧q<=m∧h<=40):=⟨by rw[LA,hz.1];omega,hgo,hh40⟩
     clear HH hq hgo hh64 hh40 hz hmm hnn;go_wp2
     go_roundg (64 - (h+1))
     case rel =>
      go_light;exact⟨h+1,q,by have:=HY.out.2.2;omega,rfl,rfl,⟨HY.out.1,HY.out.2.1⟩,rfl⟩
     case measure=>go_light;have:=HY.out.2.2;omega
    ·have hgo' : ¬((q:Int)<=(m:Int)):=by omega
     have hE:=HE.out;have hg1:2^h<=n % 2^g:=by omega
     have hg2:n % 2^g<2^(h+1):=by rw[LA];omega
     obtain⟨hsg,hbit,hm1,hm2⟩:=QgD hg1 hg2;obtain⟨hat,hge⟩:=Qep hbit;have hat2:(n / 2^h - 1)*2^h=t:=by omega
     have e7:IntKind.i64.wrap ((t:Int)+(z:Int))=(t:Int)+(z:Int):=by rw[LW];omega
     have HNx:Hid (t+z<=n∧t+z+n % 2^h=n∧A++[(t,z)]++gen (mtP n) n h=P∧1<=z):=by
      refine⟨by omega,by omega,?_,?_⟩
      ·have h3:=QiH (f:=mtP n) hg1 hg2;rw[mtP,hat2,hz.1] at h3;rw[<-hE.2,h3];simp
      ·rw[<-hz.1];exact LL h
     clear hgo hg1 hg2 hsg hbit hm1 hm2 hat hge hat2 hE HE HH hz hmm hnn hh40 hh64 hq
     go_wp2_with (at_builtin;refine QaV _ rfl _ _ rfl w.heap.size _ A wr t z rfl rfl (QcF HX.out.1 (bal (Below.refl _ _) _)) rfl ?c1 ?c2 ?_)
     case c1 =>
      have h1:=congrArg List.length HNx.out.2.2.1;have h2:=HPl.out;simp at h1;omega
     case c2=>have:=HX.out.2.1.size;simp;omega
     intro v2 w6 h6 hb6;have HY:Hid (OwnP w6 w.heap.size v2 (A++[(t,z)])∧Zb w w6):=⟨h6,(bal HX.out.2.1 _).trans hb6⟩;clear h6 hb6;go_wp2
     go_roundg (n - (t+z))
     case rel =>
      go_light;obtain⟨k1,k2,k3,k4⟩:=HNx.out;exact⟨h,t+z,A++[(t,z)],k1,rfl,by go_num,⟨k2,k3⟩,HY.out.1,HY.out.2⟩
     case measure=>go_light;obtain⟨k1,k2,k3,k4⟩:=HNx.out;have:=HX.out.2.2;omega
  ·obtain rfl:t=n:=by omega
   have hlt' : ¬((t:Int)<(t:Int)):=by omega
   have HA:Hid (A=P):=by
    obtain⟨k1,k2⟩:=HE.out;rw[QiI (by omega),L6] at k2
    exact k2
   clear HE;go_wp2
   go_ret
   exact⟨_,rfl,by rw[<-HA.out];exact ho,hb⟩
end Go.Proofs.YtdocjikpcbmcgaaGreatDoor
