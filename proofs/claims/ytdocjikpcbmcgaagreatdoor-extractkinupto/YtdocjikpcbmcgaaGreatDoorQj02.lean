/- Own work. -/
import Derived.Test.YtdocjikpcbmcgaaGreatDoorQj01
set_option maxRecDepth 100000
set_option maxHeartbeats 2000000
namespace Go.Proofs.YtdocjikpcbmcgaaGreatDoor
open Go.RowKit
attribute [local go_sem ↓] Go.wp_at_zero Go.wp_at_succ
theorem QhY(w:World)(p:Nat)(rs iv t:List Int)(s:BA)(hrl:rs.length=64)(hr:w.rangeAt 2 0 (cW rs))(hh:Hst w p rs iv t)(hlen:t.length+s.size<4611686018427387904) :
  Calls Tryz.prog 185 #[.pointer (some ⟨p,0,none⟩),.string s] w fun e w'=>e = .returned (.tuple #[])∧Hst w' p rs iv (t++tB s)∧w.grownBy w' (some p):=by
 have hne1:2≠p:=by obtain⟨st,blk,h1,h2,h3⟩:=hh;exact h1.ne_rounds hrl hr
 have HI:Hid (Hst w p rs iv t):=hh;clear hh
 go_enter Tryz.func185,Tryz.ntmps185;go_wp2
 go_loopg [1] s.size (fun g v wr => ∃(r:BA) (t':List Int),g=r.size∧v = .string r∧Hst wr p rs iv t'∧Hid (t'++tB r=t++tB s)∧w.grownBy wr (some p))
 case atStart =>
  go_light;exact⟨s,t,rfl,rfl,HI.out,rfl,World.grownBy.refl _ _⟩
 case round =>
  obtain⟨r,t',rfl,rfl,hh,HT,hg⟩:=hrel;have hlen2:t'.length+r.size=t.length+s.size:=by
   have:=congrArg List.length HT.out
   simpa [Yz] using this
  by_cases hr0:0<r.size
  ·obtain⟨st,blk,h1,h2,h3⟩:=hh;obtain⟨n,hn⟩:=Ze t'.length;obtain⟨u,hu⟩:=Ze (n % 64);obtain⟨m,hm⟩ : ∃m,u+m=64:=⟨64 - u,by omega⟩
   obtain⟨c,hc⟩:=Ze (Nat.min r.size m);obtain⟨q,hq⟩:=Ze (8+u);have hcr:c<=r.size:=by rw[<-hc];exact Nat.min_le_left _ _
   have hcm:c<=m:=by rw[<-hc];exact Nat.min_le_right _ _
   have hc0:0<c:=by rw[<-hc];exact Nat.lt_min.2 ⟨hr0,by omega⟩
   have hr0':(0:Int)<(r.size:Int):=by omega
   rw[hn] at h1;have c72:=h1.len;have hth:wr.there p q c:=fun j hj=>by
    have:=h1.there (q+j) (by omega)
    rwa [Ll] at this
   have hu64:Hid (n % 64=u):=hu;have hsl:=fun w'=>Qca p 8 u m hm (by omega) w'
   rw[hq] at hsl;have hxl:((tB r).take c).length=c:=by rw[Lv,Yz];omega
   have hux:u+((tB r).take c).length<=64:=by omega
   have HK:Hid (∀w':World,w'.cell? ⟨p,72,none⟩=some (.int .u64 n)->(w'.setCells p q (cB ((tB r).take c))).cell? ⟨p,72,none⟩=some (.int .u64 n)):=fun w' h=>by
    rw[World.cell?_setCells_out p _ q w' ⟨p,72,none⟩ (fun _ _=>by right;show q+(cB ((tB r).take c)).length<=72;rw[Qw,hxl];omega)]
    exact h
   have HW:Hid (Hs (wr.drew.setCells p q (cB ((tB r).take c))) p st (blkC blk ((tB r).take c) u) n):=by
    have:=h1.drew.copied u ((tB r).take c) hux
    rwa [hq] at this
   have HG:Hid (w.grownBy (wr.drew.setCells p q (cB ((tB r).take c))) (some p)):=JK (QbK hg) _ _;have Hnum:Hid (t'.length=n∧n % 64=u∧u+m=64∧Nat.min r.size m=c∧((tB r).take c).length=c):=⟨hn,hu,hm,hc,hxl⟩;have HL:Hid (blk.length=64):=h1.blkl;have Hst2:Hid (st=stN rs iv t' (t'.length / 64)∧blk.take (t'.length % 64)=t'.drop (64*(t'.length / 64))):=⟨h2,h3⟩;have hm0:(0:Int)<=(c:Int):=Le _;have hcr':(c:Int)<=(r.size:Int):=by omega
   clear h1 h2 h3 hn hu hg hq hxl hux
   go_upto_region 1 with (fail)
   go_cut [4] from 5 to 42 (fun q4 wc=>q4 = .int .i64 (c:Int)∧Hs wc p st (blkC blk ((tB r).take c) u) n∧w.grownBy wc (some p))
   case first =>
    go_region_held3 (fun w'=>w'.cell? ⟨p,72,none⟩=some (.int .u64 n)) (first|assumption|(rw[Nd];assumption)|(exact HK.out _ (by assumption))|(rw[Nd];exact HK.out _ (by assumption))|(refine HK.out _ ?_;rw[Nd];assumption)) (first|(go_at_call 193;refine(On n u hu64 _ p ?_).mono ?_;(first|assumption|(rw[Nd];assumption));rintro e w' ⟨rfl,rfl⟩)|(refine Qck rfl _ _ 95 9 rfl 5 Tryz.underlying95 QlR p q m m c rfl r rfl hc ?_ ?_;(first|assumption|(rw[World.there_drew];assumption))))
    go_wp2
    go_meet
    case rel =>
     go_light;exact⟨rfl,HW.out,HG.out⟩
   case rest =>
    obtain⟨rfl,hs2,hg2⟩:=hcut;obtain⟨n',hn'⟩ : ∃n':Nat,n+c=n':=⟨_,rfl⟩;obtain⟨u',hu'⟩ : ∃u':Nat,n' % 64=u':=⟨_,rfl⟩;have hcB:n+c<4611686018427387904:=by have:=Hnum.out.1;omega
    have en:(n:Int)+(c:Int)=(n':Int):=by omega
    have c72':=hs2.len;have f72:wc.frozen? ⟨p,72,none⟩=false:=by have:=(hs2.there 72 (by omega)).2;rwa [Ll] at this
    have hs3:=hs2.setLen n';have hg3:w.grownBy (wc.setCell ⟨p,72,none⟩ (.int .u64 n')) (some p):=Lib.grownBy_setB hg2 _ _;have b0:(0:Int)<=(n:Int):=Le _;have b1:(n:Int)<4611686018427387904:=by omega
    have b2:(c:Int)<4611686018427387904:=by omega
    have Hn':Hid (n+c=n'):=hn';have Hu':Hid (n' % 64=u'):=hu';clear hn' hu' hs2 hg2 hcB
    go_upto_region 4 with (fail)
    generalize wc.setCell ⟨p,72,none⟩ (.int .u64 (n':Int))=W3 at *;clear c72' f72;generalize hB:blkC blk ((tB r).take c) u=blk' at *;have HB:Hid (blkC blk ((tB r).take c) u=blk'):=hB;clear hB HW HG HK hsl hth c72;have hxs:(r.extract c r.size).size=r.size - c:=by simp
    by_cases h0:u'=0
    ·subst h0;obtain⟨s0,s1,s2,s3,s4,s5,s6,s7,rfl⟩:=QbR hs3.stl;have c0:W3.cell? ⟨p,0,none⟩=some (.int .u32 s0):=Qe hs3.st (i:=0) (by simp)
     have c1:W3.cell? ⟨p,1,none⟩=some (.int .u32 s1):=Qe hs3.st (i:=1) (by simp)
     have c2:W3.cell? ⟨p,2,none⟩=some (.int .u32 s2):=Qe hs3.st (i:=2) (by simp)
     have c3:W3.cell? ⟨p,3,none⟩=some (.int .u32 s3):=Qe hs3.st (i:=3) (by simp)
     have c4:W3.cell? ⟨p,4,none⟩=some (.int .u32 s4):=Qe hs3.st (i:=4) (by simp)
     have c5:W3.cell? ⟨p,5,none⟩=some (.int .u32 s5):=Qe hs3.st (i:=5) (by simp)
     have c6:W3.cell? ⟨p,6,none⟩=some (.int .u32 s6):=Qe hs3.st (i:=6) (by simp)
     have c7:W3.cell? ⟨p,7,none⟩=some (.int .u32 s7):=Qe hs3.st (i:=7) (by simp)
     have hbl:=hs3.blkl;have hbr:=hs3.blk;have hi:(Tryz.prog.info? 221).map (·.size)=some (cB blk').length:=by rw[Qw,hbl];exact QaE
     have hu35:=Tryz.underlying221;have hl':(cB blk').length=64:=by rw[Qw,hbl]
     have hr3:W3.rangeAt 2 0 (cW rs):=QeC hg3 hne1 hr;have hr3d:W3.drew.rangeAt 2 0 (cW rs):=by rw[World.rangeAt_drew];exact hr3
     have hfo:=fun w'=>Oz [s0,s1,s2,s3,s4,s5,s6,s7] rfl blk' hbl w' rs hrl
     generalize hF:YO rs [s0,s1,s2,s3,s4,s5,s6,s7] blk'=F at hfo;have hFl:F.length=8:=by rw[<-hF];rfl
     have hszF:(cW F).toArray.size=8:=by simp[Qp,hFl]
     have hiF:(Tryz.prog.info? 113).map (·.size)=some (cW F).toArray.size:=by rw[hszF];exact UE
     have HF:Hid (YO rs [s0,s1,s2,s3,s4,s5,s6,s7] blk'=F):=hF;clear hF;have c72':=hs3.len;have hplt:=hs3.lt;have ht8:W3.there p 0 8:=fun j hj=>hs3.there j (by omega)
     have hst34 : ∀w':World,w'.there p 0 8->(storeCells ⟨p,0,none⟩ (cW F)).run Tryz.prog w' = .ok () (w'.setCells p 0 (cW F)):=fun w' h=>by
      have hl8:(cW F).length=8:=by rw[Qp,hFl]
      have:=run_storeCells_cells (P:=Tryz.prog) p 0 (cW F) 0 w' (by rw[hl8];intro j hj;simpa using (h j hj).1) (by rw[hl8];intro j hj;simpa using (h j hj).2) (Uz F)
      simpa using this
     have HS3:Hid (Hs W3 p [s0,s1,s2,s3,s4,s5,s6,s7] blk' n'):=hs3;clear hs3;have HK:Hid (∀w':World,Below W3.drew.heap.size W3.drew w'->w'.rangeAt p 8 (cB blk')∧w'.there p 0 8):=fun w' h=>⟨Ql h hplt (by rw[World.rangeAt_drew];exact hbr),Q8 h hplt (by rw[World.there_drew];exact ht8)⟩
     have hst3:W3.drew.rangeAt p 0 (cW [s0,s1,s2,s3,s4,s5,s6,s7]):=by rw[World.rangeAt_drew];exact HS3.out.st
     have hi34:(Tryz.prog.info? 113).map (·.size)=some (cW [s0,s1,s2,s3,s4,s5,s6,s7]).length:=UE;have hS0:W3.drew.rangeAt p 8 (cB blk')∧W3.drew.there p 0 8:=⟨by rw[World.rangeAt_drew];exact hbr,by rw[World.there_drew];exact ht8⟩
     have HX:Hid (∀w',Below W3.drew.heap.size W3.drew w'->Hs (w'.setCells p 0 (cW F)) p F blk' n'∧w.grownBy (w'.setCells p 0 (cW F)) (some p)):=fun w' hb =>
      ⟨(HS3.out.drew.later hb hplt).setState F hFl,JK (Qei (QbK hg3) hb) _ _⟩
     clear c0 c1 c2 c3 c4 c5 c6 c7 hg3 hst34
     go_wp2_with (go_at_call 193;refine(On n' 0 Hu' _ p c72').mono ?_;rintro e w' ⟨rfl,rfl⟩)
     refine wp_region_noPanic ?_
     refine wp_region_held_drew (S:=fun w'=>w'.rangeAt p 8 (cB blk')∧w'.there p 0 8) (by kernel_rfl) hS0 (fun hHeld => ?_)
     refine wpAnyH_take (i:=0) (oi := { dst:=some 31,op:=Op.move (Operand.tmp 0),type:=214,pos := "sha.go:45",after:=#[],guard:=none }) (v := .pointer (some ⟨p,0,none⟩)) rfl (by kernel_rfl) (by kernel_rfl) (by kernel_rfl) (fun _ _ _ h=>h) (Or.inl ⟨by rfl,fun w hSw => ?_⟩) (by assumption) ?_
     ·go_simp
     simp only[Act.put,List.setIfInBounds_toArray,List.set_cons_zero,List.set_cons_succ];refine wpAnyH_take (i:=1) (oi := { dst:=some 32,op:=Op.move (Operand.tmp 0),type:=214,pos := "sha.go:45",after:=#[],guard:=none }) (v := .pointer (some ⟨p,0,none⟩)) rfl (by kernel_rfl) (by kernel_rfl) (by kernel_rfl) (fun _ _ _ h=>h) (Or.inl ⟨by rfl,fun w hSw => ?_⟩) (by assumption) ?_
     ·go_simp
     simp only[Act.put,List.setIfInBounds_toArray,List.set_cons_zero,List.set_cons_succ];refine wpAnyH_take (i:=2) (oi := { dst:=some 33,op:=Op.nilCheck (Operand.tmp 32),type:=0,pos := "sha.go:45",after:=#[{ on:=1,ground:=Ground.data }],guard:=none }) (v := .pointer (some ⟨p,0,none⟩)) rfl (by kernel_rfl) (by kernel_rfl) (by kernel_rfl) (fun _ _ _ h=>h) (Or.inl ⟨by rfl,fun w hSw => ?_⟩) (by assumption) ?_
     ·go_simp
     simp only[Act.put,List.setIfInBounds_toArray,List.set_cons_zero,List.set_cons_succ];refine wpAnyH_take (i:=3) (oi := { dst:=some 34,op:=Op.fieldAddr 223 (Operand.tmp 33) 0,type:=0,pos := "sha.go:45",after:=#[{ on:=2,ground:=Ground.data }],guard:=none }) (v := .pointer (some ⟨p,0,none⟩)) rfl (by kernel_rfl) (by kernel_rfl) (by kernel_rfl) (fun _ _ _ h=>h) (Or.inl ⟨by rfl,fun w hSw => ?_⟩) (by assumption) ?_
     ·go_simp
     simp only[Act.put,List.setIfInBounds_toArray,List.set_cons_zero,List.set_cons_succ];refine wpAnyH_take (i:=5) (oi := { dst:=some 36,op:=Op.move (Operand.tmp 0),type:=214,pos := "sha.go:45",after:=#[],guard:=none }) (v := .pointer (some ⟨p,0,none⟩)) rfl (by kernel_rfl) (by kernel_rfl) (by kernel_rfl) (fun _ _ _ h=>h) (Or.inl ⟨by rfl,fun w hSw => ?_⟩) (by assumption) ?_
     ·go_simp
     simp only[Act.put,List.setIfInBounds_toArray,List.set_cons_zero,List.set_cons_succ];refine wpAnyH_take (i:=6) (oi := { dst:=some 37,op:=Op.nilCheck (Operand.tmp 36),type:=0,pos := "sha.go:45",after:=#[{ on:=5,ground:=Ground.data }],guard:=none }) (v := .pointer (some ⟨p,0,none⟩)) rfl (by kernel_rfl) (by kernel_rfl) (by kernel_rfl) (fun _ _ _ h=>h) (Or.inl ⟨by rfl,fun w hSw => ?_⟩) (by assumption) ?_
     ·go_simp
     simp only[Act.put,List.setIfInBounds_toArray,List.set_cons_zero,List.set_cons_succ];refine wpAnyH_take (i:=7) (oi := { dst:=some 38,op:=Op.fieldAddr 223 (Operand.tmp 37) 1,type:=0,pos := "sha.go:45",after:=#[{ on:=6,ground:=Ground.data }],guard:=none }) (v := .pointer (some ⟨p,8,none⟩)) rfl (by kernel_rfl) (by kernel_rfl) (by kernel_rfl) (fun _ _ _ h=>h) (Or.inl ⟨by rfl,fun w hSw => ?_⟩) (by assumption) ?_
     ·go_simp
     simp only[Act.put,List.setIfInBounds_toArray,List.set_cons_zero,List.set_cons_succ];refine wpAnyH_take (i:=8) (oi := { dst:=some 39,op:=Op.load 221 (Operand.tmp 38),type:=221,pos := "sha.go:45",after:=#[{ on:=7,ground:=Ground.data }],guard:=none }) (v := .agg (cB blk').toArray) rfl (by kernel_rfl) (by kernel_rfl) (by kernel_rfl) (fun _ _ _ h=>h) (yieldsIf_load_mid (by rfl) 221 _ rfl p 8 rfl (cB blk') _ (fun w hw=>hw.1) Tryz.underlying221 rfl hi) (by assumption) ?_
     simp only[Act.put,List.setIfInBounds_toArray,List.set_cons_zero,List.set_cons_succ];refine wpAnyH_ready (rs:=[4]) (by kernel_rfl) (by simp) ?_
     refine AllReadyH.cons (o := { dst:=some 35,op:=Op.load 113 (Operand.tmp 34),type:=113,pos := "sha.go:45",after:=#[{ on:=3,ground:=Ground.data }],guard:=none }) rfl (fun K hK => ?_) AllReadyH.nil
     rw[if_pos (by rfl)]
     refine wp_load_mid 113 _ rfl p 0 rfl (cW [s0,s1,s2,s3,s4,s5,s6,s7]) _ hst3 Tryz.underlying113 rfl hi34 ?_
     refine hK.out _ _ hHeld (fun hHeld => ?_)
     clear hK K;simp only[Act.put,List.setIfInBounds_toArray,List.set_cons_zero,List.set_cons_succ];refine wpAnyH_ready (rs:=[9]) (by kernel_rfl) (by simp) ?_
     refine AllReadyH.cons (o := { dst:=some 40,op:=Op.call { callee:=Callee.value (Operand.func 194),args:=#[Operand.tmp 35,Operand.tmp 39],argTypes:=#[113,221] },type:=113,pos := "sha.go:45",after:=#[{ on:=4,ground:=Ground.data },{ on:=8,ground:=Ground.data }],guard:=none }) rfl (fun K hK => ?_) AllReadyH.nil
     go_simp
     refine(hfo _ hr3d).mono ?_
     rintro e w4 ⟨rfl,hbw⟩;have hth4:=(HK.out _ hbw).2;refine hK.out _ _ (HK.out _ hbw) (fun hHeld => ?_)
     clear hK K;refine wpAnyH_take (i:=10) (oi := { dst:=some 41,op:=Op.nilCheck (Operand.tmp 31),type:=0,pos := "sha.go:45",after:=#[{ on:=0,ground:=Ground.data },{ on:=0,ground:=Ground.phase },{ on:=1,ground:=Ground.phase },{ on:=2,ground:=Ground.phase },{ on:=3,ground:=Ground.phase },{ on:=4,ground:=Ground.phase },{ on:=5,ground:=Ground.phase },{ on:=6,ground:=Ground.phase },{ on:=7,ground:=Ground.phase },{ on:=8,ground:=Ground.phase },{ on:=9,ground:=Ground.phase }],guard:=none }) (v := .pointer (some ⟨p,0,none⟩)) rfl (by kernel_rfl) (by kernel_rfl) (by kernel_rfl) (fun _ _ _ h=>h) (Or.inl ⟨by rfl,fun w hSw => ?_⟩) (by assumption) ?_
     ·go_simp
     simp only[Act.put,List.setIfInBounds_toArray,List.set_cons_zero,List.set_cons_succ];refine wpAnyH_take (i:=11) (oi := { dst:=some 42,op:=Op.fieldAddr 223 (Operand.tmp 41) 0,type:=0,pos := "sha.go:45",after:=#[{ on:=10,ground:=Ground.data },{ on:=0,ground:=Ground.phase },{ on:=1,ground:=Ground.phase },{ on:=2,ground:=Ground.phase },{ on:=3,ground:=Ground.phase },{ on:=4,ground:=Ground.phase },{ on:=5,ground:=Ground.phase },{ on:=6,ground:=Ground.phase },{ on:=7,ground:=Ground.phase },{ on:=8,ground:=Ground.phase },{ on:=9,ground:=Ground.phase }],guard:=none }) (v := .pointer (some ⟨p,0,none⟩)) rfl (by kernel_rfl) (by kernel_rfl) (by kernel_rfl) (fun _ _ _ h=>h) (Or.inl ⟨by rfl,fun w hSw => ?_⟩) (by assumption) ?_
     ·go_simp
     simp only[Act.put,List.setIfInBounds_toArray,List.set_cons_zero,List.set_cons_succ];refine wpAnyH_ready (rs:=[12]) (by kernel_rfl) (by simp) ?_
     refine AllReadyH.cons (o := { dst:=none,op:=Op.store 113 (Operand.tmp 42) (Operand.tmp 40),type:=0,pos := "sha.go:45",after:=#[{ on:=11,ground:=Ground.data },{ on:=9,ground:=Ground.data },{ on:=9,ground:=Ground.chain },{ on:=0,ground:=Ground.phase },{ on:=1,ground:=Ground.phase },{ on:=2,ground:=Ground.phase },{ on:=3,ground:=Ground.phase },{ on:=4,ground:=Ground.phase },{ on:=5,ground:=Ground.phase },{ on:=6,ground:=Ground.phase },{ on:=7,ground:=Ground.phase },{ on:=8,ground:=Ground.phase },{ on:=9,ground:=Ground.phase }],guard:=none }) rfl (fun K hK => ?_) AllReadyH.nil
     rw[if_pos (by rfl)]
     refine wp_store_mid 113 _ _ rfl p 0 (cW F).toArray rfl rfl (by rw[hszF];exact hth4) hiF (all_oneCell_toArray (Uz F)) ?_
     refine hK.out _ _ ⟨World.rangeAt_setCells_apart hHeld.1 _ _ _ (by right;right;rw[List.toList_toArray,Qp,hFl];omega),World.there_setCells hth4 _ _ _⟩ (fun hHeld => ?_)
     clear hK K;simp only[Act.put];refine wpAnyH_done (by kernel_rfl) ?_ _
     refine NoPanic.normal ?_
     go_wp2
     go_roundg (r.extract c r.size).size
     case rel =>
      go_light;obtain⟨hn,hu,hm,hc,hxl⟩:=Hnum.out;obtain⟨hH,hG⟩:=HX.out _ hbw;have hn':=Hn'.out;have hu':=Hu'.out;obtain⟨hst,hbk⟩:=Hst2.out;have hf:=HF.out;have hb':=HB.out;rw[hn,hu,<-hn] at hbk;refine⟨_,t'++(tB r).take c,rfl,rfl,Hst.full HL.out (by omega) (by omega) hst hbk ?_,?_,hG⟩
      ·rw[Ld,hxl,hn,hn',hb',hf];exact hH
      ·rw[Qcf,Lt,L9];exact HT
     case measure =>
      go_light;rw[hxs];omega
    ·have h0':((u':Int) == 0)=false:=by rw[beq_eq_false_iff_ne];omega
     have c72':=hs3.len;have HS3:Hid (Hs W3 p st blk' n'):=hs3;have HG3:Hid (w.grownBy W3 (some p)):=hg3;clear hs3 hg3
     go_wp2_with (go_at_call 193;refine(On n' u' Hu' _ p c72').mono ?_;rintro e w' ⟨rfl,rfl⟩)
     go_roundg (r.extract c r.size).size
     case rel =>
      go_light;obtain⟨hn,hu,hm,hc,hxl⟩:=Hnum.out;have hn':=Hn'.out;have hu':=Hu'.out;obtain⟨hst,hbk⟩:=Hst2.out;have hb':=HB.out;rw[hn,hu,<-hn] at hbk;refine⟨_,t'++(tB r).take c,rfl,rfl,Hst.part HL.out (by omega) (by omega) hst hbk ?_,?_,HG3.out⟩
      ·rw[Ld,hxl,hn,hn',hb'];exact HS3.out
      ·rw[Qcf,Lt,L9];exact HT
     case measure =>
      go_light;rw[hxs];omega
  ·have hr1:r.size=0:=by omega
   have hr0' : ¬((0:Int)<(r.size:Int)):=by omega
   have HR:Hid (Hst wr p rs iv (t++tB s)):=by
    have:=HT.out;rw[QmT hr1,L6] at this;rw[<-this];exact hh
   clear hh;go_wp2
   go_end0
   exact⟨rfl,HR.out,hg⟩
def IV:List Int:=[1779033703,3144134277,1013904242,2773480762,1359893119,2600822924,528734635,1541459225]
theorem QkN(w:World) :
  Calls Tryz.prog 184 #[] w fun e w'=>e = .returned (.pointer (some ⟨w.heap.size,0,none⟩))∧w'=w.alloc (.cells ((cW IV++cB (List.replicate 64 0))++[Value.int .u64 0]).toArray 223):=by
 have hz : ∀w':World,(zeroValue 223).run Tryz.prog w' = .ok (.agg #[.int .u32 0,.int .u32 0,.int .u32 0,.int .u32 0,.int .u32 0,.int .u32 0,.int .u32 0,.int .u32 0,.int .u8 0,.int .u8 0,.int .u8 0,.int .u8 0,.int .u8 0,.int .u8 0,.int .u8 0,.int .u8 0,.int .u8 0,.int .u8 0,.int .u8 0,.int .u8 0,.int .u8 0,.int .u8 0,.int .u8 0,.int .u8 0,.int .u8 0,.int .u8 0,.int .u8 0,.int .u8 0,.int .u8 0,.int .u8 0,.int .u8 0,.int .u8 0,.int .u8 0,.int .u8 0,.int .u8 0,.int .u8 0,.int .u8 0,.int .u8 0,.int .u8 0,.int .u8 0,.int .u8 0,.int .u8 0,.int .u8 0,.int .u8 0,.int .u8 0,.int .u8 0,.int .u8 0,.int .u8 0,.int .u8 0,.int .u8 0,.int .u8 0,.int .u8 0,.int .u8 0,.int .u8 0,.int .u8 0,.int .u8 0,.int .u8 0,.int .u8 0,.int .u8 0,.int .u8 0,.int .u8 0,.int .u8 0,.int .u8 0,.int .u8 0,.int .u8 0,.int .u8 0,.int .u8 0,.int .u8 0,.int .u8 0,.int .u8 0,.int .u8 0,.int .u8 0,.int .u64 0]) w':=fun w'=>by kernel_rfl
 go_enter Tryz.func184,Tryz.ntmps184;go_wp2
 go_ret
 exact⟨rfl,rfl⟩
theorem Qnq(H:List Int)(hl:H.length=8)(k:Nat)(hk:k<8)(w:World):(Instr.index 113 (.agg (cW H).toArray) (.int .i64 (k:Int))).run Tryz.prog w = .ok (.int .u32 (H.getD k 0)) w:=by
 obtain⟨s0,s1,s2,s3,s4,s5,s6,s7,rfl⟩:=QbR hl;obtain rfl|rfl|rfl|rfl|rfl|rfl|rfl|rfl:k=0∨k=1∨k=2∨k=3∨k=4∨k=5∨k=6∨k=7:=by omega
 all_goals kernel_rfl
def w4(x:Int):List Int:=[IntKind.u8.wrap (x / 16777216),IntKind.u8.wrap (x / 65536),IntKind.u8.wrap (x / 256),IntKind.u8.wrap x]
def UV(H:List Int):Nat->List Int
 | 0=>[]
 | k+1=>UV H k++w4 (H.getD k 0)
def Jc(l:List Int):List Int:=l++List.replicate (32 - l.length) 0
theorem QbX(H:List Int)(k:Nat):(UV H k).length=4*k:=by
 induction k with
 | zero=>rfl
 | succ k ih=>simp only[UV,List.length_append,ih,w4,List.length_cons,List.length_nil];omega
theorem Qht{l:List Int}(h:l.length<=32):(Jc l).length=32:=by simp[Jc];omega
theorem Qfu{l:List Int}(h:l.length=32):Jc l=l:=by simp[Jc,h]
theorem Qhu{l:List Int}(h:l.length<32)(v:Int):(Jc l).set l.length v=Jc (l++[v]):=by
 unfold Jc;rw[L8 _ _ (Lb _)];obtain⟨n,hn⟩ : ∃n,32 - l.length=n+1:=⟨32 - l.length - 1,by omega⟩
 have hn':32 - (l++[v]).length=n:=by simp;omega
 rw[hn,hn',List.replicate_succ];simp
structure Su(w wr:World)(l:List Int):Prop where
 below:Zb w wr
 out:wr.rangeAt w.heap.size 0 (cB (Jc l))
 outt:wr.there w.heap.size 0 32
theorem Su.step{w wr:World}{l:List Int}(h:Su w wr l){m:Nat}(hm:l.length=m)(hl:m<32)(v:Int):Su w (wr.setCell ⟨w.heap.size,m,none⟩ (.int .u8 v)) (l++[v]):=by
 subst hm;refine⟨h.below.setCell (Lb _) _,?_,Q3 h.outt _ _⟩
 have:=Uw h.out l.length (.int .u8 v)
 rwa [Ll,Qe8,Qhu hl] at this
def Q7(l:List Int):BA:=l.foldl (fun r n=>r.push (UInt8.ofNat n.toNat)) ByteArray.empty
theorem Qbv(w:World)(b:Nat)(l:List Int)(n:Nat)(hl:l.length=n)(h:w.rangeAt b 0 (cB l)):(convert 95 9 (.slice (some ⟨b,0,none⟩) n n)).run Tryz.prog w = .ok (.string (Q7 l)) w:=by
 subst hl;rw[run_convert_bytes_string w 95 9 5 _ _ _ Tryz.underlying95 Tryz.underlying5 Tryz.underlying9];refine run_bytesToString w ⟨b,0,none⟩ l.length l.length l ?_
 have:=run_loadCells_list (P:=Tryz.prog) w ⟨b,0,none⟩ (cB l) (fun j v hv=>by rw[Addr.add_mid];exact h j v hv)
 rwa [Qw] at this
theorem Qav{w:World}{b i j:Nat}{v u:Value}(h:w.cell? ⟨b,i,none⟩=some u)(hne:i≠j):(w.setCell ⟨b,j,none⟩ v).cell? ⟨b,i,none⟩=some u:=by
 rw[Lj _ _ _ _ (fun e=>hne (by have:=congrArg Addr.off e;simpa using this.symm))];exact h
theorem Qll(w:World)(p:Nat)(st blk:List Int)(n:Nat)(hh:Hs w p st blk n)(rs:List Int)(hrl:rs.length=64)(hr:w.rangeAt 2 0 (cW rs)) :
  Zr 186 #[.pointer (some ⟨p,0,none⟩)] w (.string (Q7 (UV (Q0 rs st blk n) 8))):=by
 obtain⟨H,hH⟩ : ∃H,H=Q0 rs st blk n:=⟨_,rfl⟩;have hHl:H.length=8:=by rw[hH];exact Qbt _ _ _ _
 have hcl:=fun(w':World) (h:Hs w' p st blk n) (h2:w'.rangeAt 2 0 (cW rs))=>closed_any w' p st blk n h rs hrl h2
 rw[<-hH] at hcl;have HE:Hid (H=Q0 rs st blk n):=hH;clear hH;have hlt:p<w.heap.size:=hh.lt;have h1w:2<w.heap.size:=QM hr (by intro h;have:=congrArg List.length h;simp[Qp,hrl] at this)
 have hA : ∀o,Hs (w.alloc o) p st blk n:=fun o=>hh.later ((Below.refl w.heap.size w).alloc (Lb _) o) hlt
 have hR : ∀o,(w.alloc o).rangeAt 2 0 (cW rs):=fun o=>World.rangeAt_alloc hr o
 go_enter Tryz.func186,Tryz.ntmps186
 go_wp2_with (go_at_call 195;refine(hcl _ (hA _) (hR _)).mono ?_;rintro e w' ⟨rfl,hbw⟩)
 have hS:Su w w' []:=by
  have q:=Qy w (cB (List.replicate 32 0)).toArray 225 32 (by simp[Qw])
  have r:=Qv w (cB (List.replicate 32 0)) 225;exact⟨((Below.refl _ _).alloc (Lb _) _).trans (hbw.mono (by simp)),Ql hbw (by simp) r,Q8 hbw (by simp) q⟩
 clear hbw hcl hA hR
 go_loopg [8] 8 (fun g i wr => ∃k:Nat,k<=8∧g=8 - k∧i = .int .i64 k∧Su w wr (UV H k))
 case atStart =>
  go_light;exact⟨0,Lf _,rfl,rfl,hS⟩
 case round =>
  clear hS;obtain⟨k,hk,rfl,rfl,hs⟩:=hrel
  by_cases hlt:k<8
  ·have hk0:(0:Int)<=(k:Int):=Le _;have hk8:(k:Int)<8:=by omega
   have hidx:=fun w'=>Qnq H hHl k hlt w'
   obtain⟨m,hm⟩ : ∃m:Nat,4*k=m:=⟨_,rfl⟩;obtain⟨m1,hm1⟩ : ∃m1:Nat,m+1=m1:=⟨_,rfl⟩;obtain⟨m2,hm2⟩ : ∃m2:Nat,m+2=m2:=⟨_,rfl⟩;obtain⟨m3,hm3⟩ : ∃m3:Nat,m+3=m3:=⟨_,rfl⟩;have e0:4*(k:Int)=(m:Int):=by omega
   have e1:(m:Int)+1=(m1:Int):=by omega
   have e2:(m:Int)+2=(m2:Int):=by omega
   have e3:(m:Int)+3=(m3:Int):=by omega
   have b0:(0:Int)<=(m:Int):=Le _;have b1:(0:Int)<=(m1:Int):=Le _;have b2:(0:Int)<=(m2:Int):=Le _;have b3:(0:Int)<=(m3:Int):=Le _;have d0:(m:Int)<32:=by omega
   have d1:(m1:Int)<32:=by omega
   have d2:(m2:Int)<32:=by omega
   have d3:(m3:Int)<32:=by omega
   have hol:=QbX H k;have hpl:(Jc (UV H k)).length=32:=Qht (by omega)
   have c0:=Yw hs.out (i:=m) (by omega)
   have c1:=Yw hs.out (i:=m1) (by omega)
   have c2:=Yw hs.out (i:=m2) (by omega)
   have c3:=Yw hs.out (i:=m3) (by omega)
   have f0:wr.frozen? ⟨w.heap.size,m,none⟩=false:=by have:=(hs.outt m (by omega)).2;rwa [Ll] at this
   have f1:wr.frozen? ⟨w.heap.size,m1,none⟩=false:=by have:=(hs.outt m1 (by omega)).2;rwa [Ll] at this
   have f2:wr.frozen? ⟨w.heap.size,m2,none⟩=false:=by have:=(hs.outt m2 (by omega)).2;rwa [Ll] at this
   have f3:wr.frozen? ⟨w.heap.size,m3,none⟩=false:=by have:=(hs.outt m3 (by omega)).2;rwa [Ll] at this
   have c1':=fun v=>Qav (v:=v) c1 (show m1≠m by omega)
   have c2':=fun v v'=>Qav (v:=v') (Qav (v:=v) c2 (show m2≠m by omega)) (show m2≠m1 by omega)
   have c3':=fun v v' v''=>Qav (v:=v'') (Qav (v:=v') (Qav (v:=v) c3 (show m3≠m by omega)) (show m3≠m1 by omega)) (show m3≠m2 by omega)
   have HF:Hid (∀x0 x1 x2 x3,Su w ((((wr.setCell ⟨w.heap.size,m,none⟩ (.int .u8 x0)).setCell ⟨w.heap.size,m1,none⟩ (.int .u8 x1)).setCell ⟨w.heap.size,m2,none⟩ (.int .u8 x2)).setCell ⟨w.heap.size,m3,none⟩ (.int .u8 x3)) (UV H k++[x0,x1,x2,x3])):=fun x0 x1 x2 x3=>by
    have:=(((hs.step (m:=m) (by omega) (by omega) x0).step (m:=m1) (by simp;omega) (by omega) x1).step (m:=m2) (by simp;omega) (by omega) x2).step (m:=m3) (by simp;omega) (by omega) x3
    simpa using this
   clear hs hm hm1 hm2 hm3 c1 c2 c3 hol hpl;generalize (Jc (UV H k)).getD m 0=z0 at *;generalize (Jc (UV H k)).getD m1 0=z1 at *;generalize (Jc (UV H k)).getD m2 0=z2 at *;generalize (Jc (UV H k)).getD m3 0=z3 at *;generalize hx:H.getD k 0=x at *;have HX:Hid (H.getD k 0=x):=hx;clear hx;go_wp2
   go_roundg (8 - (k+1))
   case rel =>
    go_light;refine⟨k+1,by omega,rfl,by go_num,?_⟩
    rw[UV,HX.out];exact HF.out _ _ _ _
   case measure=>go_light;omega
  ·obtain rfl:k=8:=by omega
   have hol:=QbX H 8;have hrg:=hs.out;rw[Qfu hol] at hrg;have hcv:=Qbv wr w.heap.size (UV H 8) 32 hol hrg;have HB:Hid (Zb w wr):=hs.below;have HO:Hid (UV H 8=UV (Q0 rs st blk n) 8):=by rw[HE.out];exact rfl
   clear hs hrg hol;generalize UV H 8=l at *;go_wp2
   go_ret
   exact⟨by rw[<-HO.out];rfl,HB.out⟩
theorem Qdj{blk:List Int}(h:blk.length=64){u:Nat}(hu:u<64):U3 blk u=(blk.take u++[128])++List.replicate (64 - (u+1)) 0:=by
 unfold U3
 congr 1
 apply List.ext_getElem?
 intro i
 by_cases hi:i<u
 ·rw[Nf,if_pos (by omega),Ij (by omega),LN (by simp;omega),Nf,if_pos hi]
 ·by_cases hi2:i=u
  ·subst hi2;rw[Nf,if_pos (by omega),List.getElem?_set_self (by omega),LM (by simp;omega)]
   have:(blk.take i).length=i:=by simp;omega
   rw[this,ND];rfl
  ·rw[Nf,if_neg (by omega),NK]
   simp;omega
theorem Qdc{rs st blk blk':List Int}{n:Nat}(h:blk.length=64)(h':blk'.length=64)(he:blk.take (n % 64)=blk'.take (n % 64)):Q0 rs st blk n=Q0 rs st blk' n:=by
 have:U3 blk (n % 64)=U3 blk' (n % 64):=by rw[Qdj h (IK _ (by decide)),Qdj h' (IK _ (by decide)),he]
 unfold Q0;rw[this]
def shaT(rs t:List Int):List Int:=UV (Q0 rs (stN rs IV t (t.length / 64)) (pad (t.drop (64*(t.length / 64)))) t.length) 8
def Jt(rs t:List Int):BA:=Q7 (shaT rs t)
theorem Qlm(w:World)(p:Nat)(rs t:List Int)(hh:Hst w p rs IV t)(hrl:rs.length=64)(hr:w.rangeAt 2 0 (cW rs)) :
  Zr 186 #[.pointer (some ⟨p,0,none⟩)] w (.string (Jt rs t)):=by
 obtain⟨st,blk,h1,h2,h3⟩:=hh;refine(Qll w p st blk t.length h1 rs hrl hr).mono fun e w' ⟨he,hb⟩=>⟨?_,hb⟩
 have hd:(t.drop (64*(t.length / 64))).length=t.length % 64:=by rw[LD];omega
 have e:Q0 rs st blk t.length=Q0 rs (stN rs IV t (t.length / 64)) (pad (t.drop (64*(t.length / 64)))) t.length:=by
  rw[<-h2];refine Qdc h1.blkl (Um (by omega)) ?_
  rw[h3,pad,Nh (by omega),Lx (by omega)]
 rw[he,Jt,shaT,e]
theorem QkO(w:World)(rs:List Int):Hst (w.alloc (.cells ((cW IV++cB (List.replicate 64 0))++[Value.int .u64 0]).toArray 223)) w.heap.size rs IV []:=by
 have r:=Qv w ((cW IV++cB (List.replicate 64 0))++[Value.int .u64 0]) 223;have q:=Qy w ((cW IV++cB (List.replicate 64 0))++[Value.int .u64 0]).toArray 223 73 (by simp[Qp,Qw,IV])
 refine⟨IV,List.replicate 64 0,⟨rfl,by simp,?_,?_,?_,q⟩,rfl,rfl⟩
 ·intro j v hv;have hj:j<8:=(Lw.1 hv).1;exact r j v (by rw[LN (by simp[Qp,Qw,IV];omega),LN (by simp[Qp,IV];omega)];exact hv)
 ·intro j v hv;have hj:j<64:=by have:=(Lw.1 hv).1;simpa [Qw] using this
  have:=r (8+j) v (by rw[LN (by simp[Qp,Qw,IV];omega),LM (by simp[Qp,IV])];simpa [Qp,IV] using hv)
  rwa [Ll] at this
 ·exact r 72 _ rfl
def Qdw:Obj := .cells ((cW IV++cB (List.replicate 64 0))++[Value.int .u64 0]).toArray 223
theorem QkP(w:World):Calls Tryz.prog 184 #[] w fun e w'=>e = .returned (.pointer (some ⟨w.heap.size,0,none⟩))∧w'=w.alloc Qdw:=QkN w
def Yi(ss:LB):List Int:=(ss.map tB).flatten
theorem Qcv(ss:LB)(k:Nat)(hk:k<ss.length):Yi (ss.take (k+1))=Yi (ss.take k)++tB (ss.getD k ByteArray.empty):=by
 have e:ss.getD k ByteArray.empty=ss[k]:=by rw[La,Lc hk];rfl
 unfold Yi;rw[LQ hk,LK,NS,e];simp only[List.map_cons,List.map_nil,List.flatten_cons,List.flatten_nil,List.append_nil]
theorem OW(ss:LB)(k:Nat):(Yi (ss.take k)).length<=(Yi ss).length:=by
 have:Yi ss=Yi (ss.take k)++Yi (ss.drop k):=by
  unfold Yi;rw[<-NS,<-LK,L9]
 rw[this,Ld];omega
theorem QmE(w:World)(ao:OA)(b off len cap:Nat)(ss:LB)(hl:ss.length=len)(hao:0<len->ao=some ⟨b,off,none⟩)(hs:w.rangeAt b off (ss.map Value.string))
  (hmx:len<=9223372036854775807) (rs:List Int) (hrl:rs.length=64) (hr:w.rangeAt 2 0 (cW rs)) (hlen:(Yi ss).length<4611686018427387904) :
  Zr 168 #[.slice ao len cap] w (.string (Jt rs (Yi ss))):=by
 have h1w:2<w.heap.size:=QM hr (by intro h;have:=congrArg List.length h;simp[Qp,hrl] at this)
 have hn0:Hst (w.alloc Qdw) w.heap.size rs IV []:=QkO w rs;have hb0:Zb w (w.alloc Qdw):=(Below.refl _ _).alloc (Lb _) _
 go_enter Tryz.func168,Tryz.ntmps168
 go_wp2_with (go_at_call 184;refine(QkP _).mono ?_;rintro e w' ⟨rfl,rfl⟩)
 generalize w.alloc Qdw=w1 at *
 go_loopg [9] len (fun g i wr => ∃k:Nat,k<=len∧g=len - k∧i = .int .i64 k∧Hst wr w.heap.size rs IV (Yi (ss.take k))∧Zb w wr)
 case atStart =>
  go_light;exact⟨0,Lf _,rfl,rfl,hn0,hb0⟩
 case round =>
  clear hn0 hb0;obtain⟨k,hk,rfl,rfl,hh,hb⟩:=hrel;have hrr:wr.rangeAt 2 0 (cW rs):=Ql hb h1w hr
  by_cases hlt:k<len
  ·obtain rfl:=hao (by omega)
   have hk':k<ss.length:=by omega
   have hbl:b<w.heap.size:=QM hs (by intro h;have:=congrArg List.length h;rw[Ln,IL] at this;omega)
   have ck:wr.cell? ⟨b,off+k,none⟩=some (.string (ss.getD k ByteArray.empty)):=by
    rw[hb.cell (p:=⟨b,off+k,none⟩) hbl];exact hs k _ (by simp[List.getElem?_eq_getElem hk',List.getD_eq_getElem?_getD])
   have hz:(k:Int)<(len:Int):=by omega
   have hsz:(Yi (ss.take (k+1))).length<=(Yi ss).length:=OW _ _;have hfs:=Qcv ss k hk';have hln:(Yi (ss.take k)).length+(ss.getD k ByteArray.empty).size<4611686018427387904:=by
    rw[hfs,Ld,Yz] at hsz;omega
   have hw:=QhY wr w.heap.size rs IV (Yi (ss.take k)) (ss.getD k ByteArray.empty) hrl hrr hh hln;rw[<-hfs] at hw;have HB:Hid (Zb w wr):=hb;have HZ:Hid (w.heap.size<=wr.heap.size):=hb.size;clear hfs hsz hln hh hb hs hao;generalize ss.getD k ByteArray.empty=part at *
   go_wp2_with (go_at_call 185;refine hw.mono ?_;rintro e w' ⟨rfl,hh',hg'⟩)
   go_roundg (len - (k+1))
   case rel =>
    go_light;exact⟨k+1,by omega,rfl,by go_num,hh',HB.out.grown hg' HZ.out (fun j hj=>by cases hj;exact Lb _)⟩
   case measure=>go_light;omega
  ·obtain rfl:k=len:=by omega
   have hz : ¬(k:Int)<(k:Int):=by omega
   have hsum:=Qlm wr w.heap.size rs _ hh hrl hrr;rw[Lx (by omega)] at hsum
   have HB:Hid (Zb w wr):=hb;have HZ:Hid (w.heap.size<=wr.heap.size):=hb.size;clear hh hb
   go_wp2_with (go_at_call 186;refine hsum.mono ?_;rintro e w' ⟨rfl,hb'⟩)
   go_ret
   exact⟨rfl,HB.out.trans (hb'.mono HZ.out)⟩
def Qfj{α:Type}(n:Nat)(k:Nat->α):α :=
 match n with
 | 0=>k 0
 | m+1=>k (m+1)
theorem Qcw{α:Type}(n:Nat)(k:Nat->α):Qfj n k=k n:=by cases n <;> rfl
def QbG{α:Type}(x:Int)(k:Int->α):α :=
 match x with
 | .ofNat n=>Qfj n fun n=>k (.ofNat n)
 | .negSucc n=>Qfj n fun n=>k (.negSucc n)
theorem Oc{α:Type}(x:Int)(k:Int->α):QbG x k=k x:=by
 cases x with
 | ofNat n=>exact Qcw n fun n=>k (.ofNat n)
 | negSucc n=>exact Qcw n fun n=>k (.negSucc n)
def Jl{α:Type}(l:List Int)(k:List Int->α):α :=
 match l with
 | []=>k []
 | x::r=>QbG x fun x=>Jl r fun r=>k (x::r)
theorem Uv{α:Type}(l:List Int)(k:List Int->α):Jl l k=k l:=by
 induction l generalizing k with
 | nil=>rfl
 | cons x r ih=>rw[Jl,Oc,ih]
def Qgx:Nat->Nat->List Int->List Int
 | 0,_,l=>l
 | f+1,k,l=>Jl (l++[Qeq (l.getD k 0) (l.getD (k+1) 0) (l.getD (k+9) 0) (l.getD (k+14) 0)]) fun l=>Qgx f (k+1) l
theorem Qjz(blk:List Int)(f k:Nat):Qgx f k (Q6 blk k)=Q6 blk (k+f):=by
 induction f generalizing k with
 | zero=>rfl
 | succ f ih =>
  rw[Qgx,Uv];have:=ih (k+1);rw[Q6] at this;rw[this,show k+1+f=k+(f+1) by omega]
def Qgq(rs ws:List Int):Nat->Nat->S8->S8
 | 0,_,v=>v
 | f+1,k,⟨a,b,c,d,e,g,h,i⟩ =>
  QbG (oneI e g h i (rs.getD k 0) (ws.getD k 0)) fun one=>QbG (IntKind.u32.wrap (one+twoI a b c)) fun x=>QbG (IntKind.u32.wrap (d+one)) fun y=>Qgq rs ws f (k+1) ⟨x,a,b,c,y,e,g,h⟩
theorem Qjt(rs ws:List Int)(v:S8)(f k:Nat):Qgq rs ws f k (rnds v rs ws k)=rnds v rs ws (k+f):=by
 induction f generalizing k with
 | zero=>cases rnds v rs ws k;rfl
 | succ f ih =>
  have h:=ih (k+1);rw[rnds] at h;rw[show k+(f+1)=k+1+f by omega,<-h]
  cases rnds v rs ws k;rw[Qgq,Oc,Oc,Oc]
  rfl
def Qef(rs st blk:List Int):List Int :=
 Jl blk fun blk=>Jl (sch0 blk 16) fun l=>Jl (Qgx 48 0 l) fun ws=>Jl (sumI (Uq st) (Qgq rs ws 64 0 (Uq st))) fun r=>r
theorem QiF(rs st blk:List Int):Qef rs st blk=YO rs st blk:=by
 rw[Qef,Uv,Uv,Uv,Uv,YO];have h1:=Qjz blk 48 0;rw[Ll] at h1;have h2:=Qjt rs (Q6 blk 48) (Uq st) 64 0;rw[Ll] at h2;rw[<-h2,<-h1]
 rfl
def Qff(rs st blk:List Int)(n:Nat):List Int :=
 if 55<n % 64 then Qef rs (Qef rs st (U3 blk (n % 64))) (Y0 (List.replicate 64 0) (IntKind.u64.wrap ((n:Int)*8)) 8)
 else Qef rs st (Y0 (U3 blk (n % 64)) (IntKind.u64.wrap ((n:Int)*8)) 8)
theorem QgT(rs st blk:List Int)(n:Nat):Qff rs st blk n=Q0 rs st blk n:=by
 unfold Qff Q0;simp only[QiF]
def OH(rs t:List Int):List Int:=Jl (Qff rs IV (pad t) t.length) fun h=>UV h 8
theorem QdK(rs t:List Int)(h:t.length<64):OH rs t=shaT rs t:=by
 have e:t.length / 64=0:=by omega
 rw[OH,Uv,QgT,shaT,e]
 rfl
def RS:List Int:=[1116352408,1899447441,3049323471,3921009573,961987163,1508970993,2453635748,2870763221,3624381080,310598401,607225278,1426881987,1925078388,2162078206,2614888103,3248222580,3835390401,4022224774,264347078,604807628,770255983,1249150122,1555081692,1996064986,2554220882,2821834349,2952996808,3210313671,3336571891,3584528711,113926993,338241895,666307205,773529912,1294757372,1396182291,1695183700,1986661051,2177026350,2456956037,2730485921,2820302411,3259730800,3345764771,3516065817,3600352804,4094571909,275423344,430227734,506948616,659060556,883997877,958139571,1322822218,1537002063,1747873779,1955562222,2024104815,2227730452,2361852424,2428436474,2756734187,3204031479,3329325298]
theorem Qc6:RS.length=64:=rfl
end Go.Proofs.YtdocjikpcbmcgaaGreatDoor
