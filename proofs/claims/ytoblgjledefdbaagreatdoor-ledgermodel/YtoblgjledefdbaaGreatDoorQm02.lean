/- Own work. -/
import Derived.Test.YtoblgjledefdbaaGreatDoorQm01
set_option maxRecDepth 100000
set_option maxHeartbeats 2000000
namespace Go.Proofs.YtoblgjledefdbaaGreatDoor
open Go.RowKit
attribute [local go_sem ↓] Go.wp_at_zero Go.wp_at_succ
open Go.Proofs.Tryz
theorem QaG(w:World)(p:Nat)(rs iv t:List Int)(s:BA)(hrl:rs.length=64)(hr:w.rangeAt 3 0 (cW rs))(hh:Hst w p rs iv t)(hlen:t.length+s.size<4611686018427387904) :
  Calls prog 361 #[.pointer (some ⟨p,0,none⟩),.string s] w fun e w'=>e = .returned (.tuple #[])∧Hst w' p rs iv (t++tB s)∧w.grownBy w' (some p):=by
 have hne1:3≠p:=by obtain⟨st,blk,h1,h2,h3⟩:=hh;exact h1.ne_rounds hrl hr
 have HI:Hid (Hst w p rs iv t):=hh;clear hh
 go_enter func361,ntmps361;go_wp2
 go_loopg [1] s.size (fun g v wr => ∃(r:BA) (t':List Int),g=r.size∧v = .string r∧Hst wr p rs iv t'∧Hid (t'++tB r=t++tB s)∧w.grownBy wr (some p))
 case atStart=>go_light;exact⟨s,t,rfl,rfl,HI.out,rfl,World.grownBy.refl _ _⟩
 case round =>
  obtain⟨r,t',rfl,rfl,hh,HT,hg⟩:=hrel;have hlen2:t'.length+r.size=t.length+s.size:=by
   have:=Lw List.length HT.out
   simpa [Yj] using this
  by_cases hr0:0<r.size
  ·obtain⟨st,blk,h1,h2,h3⟩:=hh;obtain⟨n,hn⟩:=Ze t'.length;obtain⟨u,hu⟩:=Ze (n % 64);obtain⟨m,hm⟩ : ∃m,u+m=64:=⟨64 - u,by omega⟩
   obtain⟨c,hc⟩:=Ze (Nat.min r.size m);obtain⟨q,hq⟩:=Ze (8+u);have hcr:c<=r.size:=by rw[<-hc];exact IM _ _
   have hcm:c<=m:=by rw[<-hc];exact I7 _ _
   have hc0:0<c:=by rw[<-hc];exact Nat.lt_min.2 ⟨hr0,by omega⟩
   have hr0':(0:Int)<(r.size:Int):=by omega
   rw[hn] at h1;have c72:=h1.len;have hth:wr.there p q c:=fun j hj=>by
    have:=h1.there (q+j) (by omega)
    rwa [Lm] at this
   have hu64:Hid (n % 64=u):=hu;have hsl:=fun w'=>Qb1 p 8 u m hm (by omega) w'
   rw[hq] at hsl;have hxl:((tB r).take c).length=c:=by rw[Lz,Yj];omega
   have hux:u+((tB r).take c).length<=64:=by omega
   have HK:Hid (∀w':World,w'.cell? ⟨p,72,none⟩=some (.int .u64 n)->(w'.setCells p q (cB ((tB r).take c))).cell? ⟨p,72,none⟩=some (.int .u64 n)):=fun w' h=>by
    rw[World.cell?_setCells_out p _ q w' ⟨p,72,none⟩ (fun _ _=>by right;show q+(cB ((tB r).take c)).length<=72;rw[QA,hxl];omega)]
    exact h
   have HW:Hid (Hs (wr.drew.setCells p q (cB ((tB r).take c))) p st (blkC blk ((tB r).take c) u) n):=by
    have:=h1.drew.copied u ((tB r).take c) hux
    rwa [hq] at this
   have HG:Hid (w.grownBy (wr.drew.setCells p q (cB ((tB r).take c))) (some p)):=Jm (Qbv hg) _ _;have Hnum:Hid (t'.length=n∧n % 64=u∧u+m=64∧Nat.min r.size m=c∧((tB r).take c).length=c):=⟨hn,hu,hm,hc,hxl⟩;have HL:Hid (blk.length=64):=h1.blkl;have Hst2:Hid (st=stN rs iv t' (t'.length / 64)∧blk.take (t'.length % 64)=t'.drop (64*(t'.length / 64))):=⟨h2,h3⟩;have hm0:(0:Int)<=(c:Int):=Lf _;have hcr':(c:Int)<=(r.size:Int):=by omega
   clear h1 h2 h3 hn hu hg hq hxl hux
   go_upto_region 1 with (fail)
   go_cut [4] from 5 to 42 (fun q4 wc=>q4 = .int .i64 (c:Int)∧Hs wc p st (blkC blk ((tB r).take c) u) n∧w.grownBy wc (some p))
   case first =>
    go_region_held3 (fun w'=>w'.cell? ⟨p,72,none⟩=some (.int .u64 n)) (first|assumption|(rw[No];assumption)|(exact HK.out _ (by assumption))|(rw[No];exact HK.out _ (by assumption))|(refine HK.out _ ?_;rw[No];assumption)) (first|(go_at_call 403;refine(J1 n u hu64 _ p ?_).mono ?_;(first|assumption|(rw[No];assumption));rintro e w' ⟨rfl,rfl⟩)|(refine Qch rfl _ _ 127 9 rfl 5 underlying127 QnI p q m m c rfl r rfl hc ?_ ?_;(first|assumption|(rw[World.there_drew];assumption))))
    go_wp2
    go_meet
    case rel=>go_light;exact⟨rfl,HW.out,HG.out⟩
   case rest =>
    obtain⟨rfl,hs2,hg2⟩:=hcut;obtain⟨n',hn'⟩ : ∃n':Nat,n+c=n':=⟨_,rfl⟩;obtain⟨u',hu'⟩ : ∃u':Nat,n' % 64=u':=⟨_,rfl⟩;have hcB:n+c<4611686018427387904:=by have:=Hnum.out.1;omega
    have en:(n:Int)+(c:Int)=(n':Int):=by omega
    have c72':=hs2.len;have f72:wc.frozen? ⟨p,72,none⟩=false:=by have:=(hs2.there 72 (by omega)).2;rwa [Lm] at this
    have hs3:=hs2.setLen n';have hg3:w.grownBy (wc.setCell ⟨p,72,none⟩ (.int .u64 n')) (some p):=Lib.grownBy_setB hg2 _ _;have b0:(0:Int)<=(n:Int):=Lf _;have b1:(n:Int)<4611686018427387904:=by omega
    have b2:(c:Int)<4611686018427387904:=by omega
    have Hn':Hid (n+c=n'):=hn';have Hu':Hid (n' % 64=u'):=hu';clear hn' hu' hs2 hg2 hcB
    go_upto_region 4 with (fail)
    generalize wc.setCell ⟨p,72,none⟩ (.int .u64 (n':Int))=W3 at *;clear c72' f72;generalize hB:blkC blk ((tB r).take c) u=blk' at *;have HB:Hid (blkC blk ((tB r).take c) u=blk'):=hB;clear hB HW HG HK hsl hth c72;have hxs:(r.extract c r.size).size=r.size - c:=by simp
    by_cases h0:u'=0
    ·subst h0;obtain⟨s0,s1,s2,s3,s4,s5,s6,s7,rfl⟩:=QbE hs3.stl;have c0:W3.cell? ⟨p,0,none⟩=some (.int .u32 s0):=Qc hs3.st (i:=0) (by simp)
     have c1:W3.cell? ⟨p,1,none⟩=some (.int .u32 s1):=Qc hs3.st (i:=1) (by simp)
     have c2:W3.cell? ⟨p,2,none⟩=some (.int .u32 s2):=Qc hs3.st (i:=2) (by simp)
     have c3:W3.cell? ⟨p,3,none⟩=some (.int .u32 s3):=Qc hs3.st (i:=3) (by simp)
     have c4:W3.cell? ⟨p,4,none⟩=some (.int .u32 s4):=Qc hs3.st (i:=4) (by simp)
     have c5:W3.cell? ⟨p,5,none⟩=some (.int .u32 s5):=Qc hs3.st (i:=5) (by simp)
     have c6:W3.cell? ⟨p,6,none⟩=some (.int .u32 s6):=Qc hs3.st (i:=6) (by simp)
     have c7:W3.cell? ⟨p,7,none⟩=some (.int .u32 s7):=Qc hs3.st (i:=7) (by simp)
     have hbl:=hs3.blkl;have hbr:=hs3.blk;have hi:(prog.info? 184).map (·.size)=some (cB blk').length:=by rw[QA,hbl];exact QaB
     have hu35:=underlying184;have hl':(cB blk').length=64:=by rw[QA,hbl]
     have hr3:W3.rangeAt 3 0 (cW rs):=QeU hg3 hne1 hr;have hr3d:W3.drew.rangeAt 3 0 (cW rs):=by rw[World.rangeAt_drew];exact hr3
     have hfo:=fun w'=>Oi [s0,s1,s2,s3,s4,s5,s6,s7] rfl blk' hbl w' rs hrl
     generalize hF:YM rs [s0,s1,s2,s3,s4,s5,s6,s7] blk'=F at hfo;have hFl:F.length=8:=by rw[<-hF];rfl
     have hszF:(cW F).toArray.size=8:=by simp[Qo,hFl]
     have hiF:(prog.info? 346).map (·.size)=some (cW F).toArray.size:=by rw[hszF];exact Ut
     have HF:Hid (YM rs [s0,s1,s2,s3,s4,s5,s6,s7] blk'=F):=hF;clear hF;have c72':=hs3.len;have hplt:=hs3.lt;have ht8:W3.there p 0 8:=fun j hj=>hs3.there j (by omega)
     have hst34 : ∀w':World,w'.there p 0 8->(storeCells ⟨p,0,none⟩ (cW F)).run prog w' = .ok () (w'.setCells p 0 (cW F)):=fun w' h=>by
      have hl8:(cW F).length=8:=by rw[Qo,hFl]
      have:=run_storeCells_cells (P:=prog) p 0 (cW F) 0 w' (by rw[hl8];intro j hj;simpa using (h j hj).1) (by rw[hl8];intro j hj;simpa using (h j hj).2) (Up F)
      simpa using this
     have HS3:Hid (Hs W3 p [s0,s1,s2,s3,s4,s5,s6,s7] blk' n'):=hs3;clear hs3;have HK:Hid (∀w':World,Below W3.drew.heap.size W3.drew w'->w'.rangeAt p 8 (cB blk')∧w'.there p 0 8):=fun w' h=>⟨Qn h hplt (by rw[World.rangeAt_drew];exact hbr),QT h hplt (by rw[World.there_drew];exact ht8)⟩
     have hst3:W3.drew.rangeAt p 0 (cW [s0,s1,s2,s3,s4,s5,s6,s7]):=by rw[World.rangeAt_drew];exact HS3.out.st
     have hi34:(prog.info? 346).map (·.size)=some (cW [s0,s1,s2,s3,s4,s5,s6,s7]).length:=Ut;have hS0:W3.drew.rangeAt p 8 (cB blk')∧W3.drew.there p 0 8:=⟨by rw[World.rangeAt_drew];exact hbr,by rw[World.there_drew];exact ht8⟩
     have HX:Hid (∀w',Below W3.drew.heap.size W3.drew w'->Hs (w'.setCells p 0 (cW F)) p F blk' n'∧w.grownBy (w'.setCells p 0 (cW F)) (some p)):=fun w' hb =>
      ⟨(HS3.out.drew.later hb hplt).setState F hFl,Jm (Qet (Qbv hg3) hb) _ _⟩
     clear c0 c1 c2 c3 c4 c5 c6 c7 hg3 hst34
     go_wp2_with (go_at_call 403;refine(J1 n' 0 Hu' _ p c72').mono ?_;rintro e w' ⟨rfl,rfl⟩)
     refine wp_region_noPanic ?_
     refine wp_region_held_drew (S:=fun w'=>w'.rangeAt p 8 (cB blk')∧w'.there p 0 8) (by kernel_rfl) hS0 (fun hHeld => ?_)
     refine wpAnyH_take (i:=0) (oi := { dst:=some 31,op:=Op.move (Operand.tmp 0),type:=401,pos := "sha.go:45",after:=#[],guard:=none }) (v := .pointer (some ⟨p,0,none⟩)) rfl (by kernel_rfl) (by kernel_rfl) (by kernel_rfl) (fun _ _ _ h=>h) (Or.inl ⟨by rfl,fun w hSw => ?_⟩) (by assumption) ?_
     ·go_simp
     simp only[Act.put,List.setIfInBounds_toArray,List.set_cons_zero,List.set_cons_succ];refine wpAnyH_take (i:=1) (oi := { dst:=some 32,op:=Op.move (Operand.tmp 0),type:=401,pos := "sha.go:45",after:=#[],guard:=none }) (v := .pointer (some ⟨p,0,none⟩)) rfl (by kernel_rfl) (by kernel_rfl) (by kernel_rfl) (fun _ _ _ h=>h) (Or.inl ⟨by rfl,fun w hSw => ?_⟩) (by assumption) ?_
     ·go_simp
     simp only[Act.put,List.setIfInBounds_toArray,List.set_cons_zero,List.set_cons_succ];refine wpAnyH_take (i:=2) (oi := { dst:=some 33,op:=Op.nilCheck (Operand.tmp 32),type:=0,pos := "sha.go:45",after:=#[{ on:=1,ground:=Ground.data }],guard:=none }) (v := .pointer (some ⟨p,0,none⟩)) rfl (by kernel_rfl) (by kernel_rfl) (by kernel_rfl) (fun _ _ _ h=>h) (Or.inl ⟨by rfl,fun w hSw => ?_⟩) (by assumption) ?_
     ·go_simp
     simp only[Act.put,List.setIfInBounds_toArray,List.set_cons_zero,List.set_cons_succ];refine wpAnyH_take (i:=3) (oi := { dst:=some 34,op:=Op.fieldAddr 428 (Operand.tmp 33) 0,type:=0,pos := "sha.go:45",after:=#[{ on:=2,ground:=Ground.data }],guard:=none }) (v := .pointer (some ⟨p,0,none⟩)) rfl (by kernel_rfl) (by kernel_rfl) (by kernel_rfl) (fun _ _ _ h=>h) (Or.inl ⟨by rfl,fun w hSw => ?_⟩) (by assumption) ?_
     ·go_simp
     simp only[Act.put,List.setIfInBounds_toArray,List.set_cons_zero,List.set_cons_succ];refine wpAnyH_take (i:=5) (oi := { dst:=some 36,op:=Op.move (Operand.tmp 0),type:=401,pos := "sha.go:45",after:=#[],guard:=none }) (v := .pointer (some ⟨p,0,none⟩)) rfl (by kernel_rfl) (by kernel_rfl) (by kernel_rfl) (fun _ _ _ h=>h) (Or.inl ⟨by rfl,fun w hSw => ?_⟩) (by assumption) ?_
     ·go_simp
     simp only[Act.put,List.setIfInBounds_toArray,List.set_cons_zero,List.set_cons_succ];refine wpAnyH_take (i:=6) (oi := { dst:=some 37,op:=Op.nilCheck (Operand.tmp 36),type:=0,pos := "sha.go:45",after:=#[{ on:=5,ground:=Ground.data }],guard:=none }) (v := .pointer (some ⟨p,0,none⟩)) rfl (by kernel_rfl) (by kernel_rfl) (by kernel_rfl) (fun _ _ _ h=>h) (Or.inl ⟨by rfl,fun w hSw => ?_⟩) (by assumption) ?_
     ·go_simp
     simp only[Act.put,List.setIfInBounds_toArray,List.set_cons_zero,List.set_cons_succ];refine wpAnyH_take (i:=7) (oi := { dst:=some 38,op:=Op.fieldAddr 428 (Operand.tmp 37) 1,type:=0,pos := "sha.go:45",after:=#[{ on:=6,ground:=Ground.data }],guard:=none }) (v := .pointer (some ⟨p,8,none⟩)) rfl (by kernel_rfl) (by kernel_rfl) (by kernel_rfl) (fun _ _ _ h=>h) (Or.inl ⟨by rfl,fun w hSw => ?_⟩) (by assumption) ?_
     ·go_simp
     simp only[Act.put,List.setIfInBounds_toArray,List.set_cons_zero,List.set_cons_succ];refine wpAnyH_take (i:=8) (oi := { dst:=some 39,op:=Op.load 184 (Operand.tmp 38),type:=184,pos := "sha.go:45",after:=#[{ on:=7,ground:=Ground.data }],guard:=none }) (v := .agg (cB blk').toArray) rfl (by kernel_rfl) (by kernel_rfl) (by kernel_rfl) (fun _ _ _ h=>h) (yieldsIf_load_mid (by rfl) 184 _ rfl p 8 rfl (cB blk') _ (fun w hw=>hw.1) underlying184 rfl hi) (by assumption) ?_
     simp only[Act.put,List.setIfInBounds_toArray,List.set_cons_zero,List.set_cons_succ];refine wpAnyH_ready (rs:=[4]) (by kernel_rfl) (by simp) ?_
     refine AllReadyH.cons (o := { dst:=some 35,op:=Op.load 346 (Operand.tmp 34),type:=346,pos := "sha.go:45",after:=#[{ on:=3,ground:=Ground.data }],guard:=none }) rfl (fun K hK => ?_) AllReadyH.nil
     rw[Lk (by rfl)]
     refine wp_load_mid 346 _ rfl p 0 rfl (cW [s0,s1,s2,s3,s4,s5,s6,s7]) _ hst3 underlying346 rfl hi34 ?_
     refine hK.out _ _ hHeld (fun hHeld => ?_)
     clear hK K;simp only[Act.put,List.setIfInBounds_toArray,List.set_cons_zero,List.set_cons_succ];refine wpAnyH_ready (rs:=[9]) (by kernel_rfl) (by simp) ?_
     refine AllReadyH.cons (o := { dst:=some 40,op:=Op.call { callee:=Callee.value (Operand.func 404),args:=#[Operand.tmp 35,Operand.tmp 39],argTypes:=#[346,184] },type:=346,pos := "sha.go:45",after:=#[{ on:=4,ground:=Ground.data },{ on:=8,ground:=Ground.data }],guard:=none }) rfl (fun K hK => ?_) AllReadyH.nil
     go_simp
     refine(hfo _ hr3d).mono ?_
     rintro e w4 ⟨rfl,hbw⟩;have hth4:=(HK.out _ hbw).2;refine hK.out _ _ (HK.out _ hbw) (fun hHeld => ?_)
     clear hK K;refine wpAnyH_take (i:=10) (oi := { dst:=some 41,op:=Op.nilCheck (Operand.tmp 31),type:=0,pos := "sha.go:45",after:=#[{ on:=0,ground:=Ground.data },{ on:=0,ground:=Ground.phase },{ on:=1,ground:=Ground.phase },{ on:=2,ground:=Ground.phase },{ on:=3,ground:=Ground.phase },{ on:=4,ground:=Ground.phase },{ on:=5,ground:=Ground.phase },{ on:=6,ground:=Ground.phase },{ on:=7,ground:=Ground.phase },{ on:=8,ground:=Ground.phase },{ on:=9,ground:=Ground.phase }],guard:=none }) (v := .pointer (some ⟨p,0,none⟩)) rfl (by kernel_rfl) (by kernel_rfl) (by kernel_rfl) (fun _ _ _ h=>h) (Or.inl ⟨by rfl,fun w hSw => ?_⟩) (by assumption) ?_
     ·go_simp
     simp only[Act.put,List.setIfInBounds_toArray,List.set_cons_zero,List.set_cons_succ];refine wpAnyH_take (i:=11) (oi := { dst:=some 42,op:=Op.fieldAddr 428 (Operand.tmp 41) 0,type:=0,pos := "sha.go:45",after:=#[{ on:=10,ground:=Ground.data },{ on:=0,ground:=Ground.phase },{ on:=1,ground:=Ground.phase },{ on:=2,ground:=Ground.phase },{ on:=3,ground:=Ground.phase },{ on:=4,ground:=Ground.phase },{ on:=5,ground:=Ground.phase },{ on:=6,ground:=Ground.phase },{ on:=7,ground:=Ground.phase },{ on:=8,ground:=Ground.phase },{ on:=9,ground:=Ground.phase }],guard:=none }) (v := .pointer (some ⟨p,0,none⟩)) rfl (by kernel_rfl) (by kernel_rfl) (by kernel_rfl) (fun _ _ _ h=>h) (Or.inl ⟨by rfl,fun w hSw => ?_⟩) (by assumption) ?_
     ·go_simp
     simp only[Act.put,List.setIfInBounds_toArray,List.set_cons_zero,List.set_cons_succ];refine wpAnyH_ready (rs:=[12]) (by kernel_rfl) (by simp) ?_
     refine AllReadyH.cons (o := { dst:=none,op:=Op.store 346 (Operand.tmp 42) (Operand.tmp 40),type:=0,pos := "sha.go:45",after:=#[{ on:=11,ground:=Ground.data },{ on:=9,ground:=Ground.data },{ on:=9,ground:=Ground.chain },{ on:=0,ground:=Ground.phase },{ on:=1,ground:=Ground.phase },{ on:=2,ground:=Ground.phase },{ on:=3,ground:=Ground.phase },{ on:=4,ground:=Ground.phase },{ on:=5,ground:=Ground.phase },{ on:=6,ground:=Ground.phase },{ on:=7,ground:=Ground.phase },{ on:=8,ground:=Ground.phase },{ on:=9,ground:=Ground.phase }],guard:=none }) rfl (fun K hK => ?_) AllReadyH.nil
     rw[Lk (by rfl)]
     refine wp_store_mid 346 _ _ rfl p 0 (cW F).toArray rfl rfl (by rw[hszF];exact hth4) hiF (all_oneCell_toArray (Up F)) ?_
     refine hK.out _ _ ⟨World.rangeAt_setCells_apart hHeld.1 _ _ _ (by right;right;rw[List.toList_toArray,Qo,hFl];omega),World.there_setCells hth4 _ _ _⟩ (fun hHeld => ?_)
     clear hK K;simp only[Act.put];refine wpAnyH_done (by kernel_rfl) ?_ _
     refine NoPanic.normal ?_
     go_wp2
     go_roundg (r.extract c r.size).size
     case rel =>
      go_light;obtain⟨hn,hu,hm,hc,hxl⟩:=Hnum.out;obtain⟨hH,hG⟩:=HX.out _ hbw;have hn':=Hn'.out;have hu':=Hu'.out;obtain⟨hst,hbk⟩:=Hst2.out;have hf:=HF.out;have hb':=HB.out;rw[hn,hu,<-hn] at hbk;refine⟨_,t'++(tB r).take c,rfl,rfl,Hst.full HL.out (by omega) (by omega) hst hbk ?_,?_,hG⟩
      ·rw[Lc,hxl,hn,hn',hb',hf];exact hH
      ·rw[Qb5,Lq,Nj];exact HT
     case measure=>go_light;rw[hxs];omega
    ·have h0':((u':Int) == 0)=false:=by rw[beq_eq_false_iff_ne];omega
     have c72':=hs3.len;have HS3:Hid (Hs W3 p st blk' n'):=hs3;have HG3:Hid (w.grownBy W3 (some p)):=hg3;clear hs3 hg3
     go_wp2_with (go_at_call 403;refine(J1 n' u' Hu' _ p c72').mono ?_;rintro e w' ⟨rfl,rfl⟩)
     go_roundg (r.extract c r.size).size
     case rel =>
      go_light;obtain⟨hn,hu,hm,hc,hxl⟩:=Hnum.out;have hn':=Hn'.out;have hu':=Hu'.out;obtain⟨hst,hbk⟩:=Hst2.out;have hb':=HB.out;rw[hn,hu,<-hn] at hbk;refine⟨_,t'++(tB r).take c,rfl,rfl,Hst.part HL.out (by omega) (by omega) hst hbk ?_,?_,HG3.out⟩
      ·rw[Lc,hxl,hn,hn',hb'];exact HS3.out
      ·rw[Qb5,Lq,Nj];exact HT
     case measure=>go_light;rw[hxs];omega
  ·have hr1:r.size=0:=by omega
   have hr0' : ¬((0:Int)<(r.size:Int)):=by omega
   have HR:Hid (Hst wr p rs iv (t++tB s)):=by
    have:=HT.out;rw[QoH hr1,LS] at this;rw[<-this];exact hh
   clear hh;go_wp2
   go_end0
   exact⟨rfl,HR.out,hg⟩
def IV:List Int:=[1779033703,3144134277,1013904242,2773480762,1359893119,2600822924,528734635,1541459225]
theorem Qdq(w:World) :
  Calls prog 360 #[] w fun e w'=>e = .returned (.pointer (some ⟨w.heap.size,0,none⟩))∧w'=w.alloc (.cells ((cW IV++cB (List.replicate 64 0))++[Value.int .u64 0]).toArray 428):=by
 have hz : ∀w':World,(zeroValue 428).run prog w' = .ok (.agg #[.int .u32 0,.int .u32 0,.int .u32 0,.int .u32 0,.int .u32 0,.int .u32 0,.int .u32 0,.int .u32 0,.int .u8 0,.int .u8 0,.int .u8 0,.int .u8 0,.int .u8 0,.int .u8 0,.int .u8 0,.int .u8 0,.int .u8 0,.int .u8 0,.int .u8 0,.int .u8 0,.int .u8 0,.int .u8 0,.int .u8 0,.int .u8 0,.int .u8 0,.int .u8 0,.int .u8 0,.int .u8 0,.int .u8 0,.int .u8 0,.int .u8 0,.int .u8 0,.int .u8 0,.int .u8 0,.int .u8 0,.int .u8 0,.int .u8 0,.int .u8 0,.int .u8 0,.int .u8 0,.int .u8 0,.int .u8 0,.int .u8 0,.int .u8 0,.int .u8 0,.int .u8 0,.int .u8 0,.int .u8 0,.int .u8 0,.int .u8 0,.int .u8 0,.int .u8 0,.int .u8 0,.int .u8 0,.int .u8 0,.int .u8 0,.int .u8 0,.int .u8 0,.int .u8 0,.int .u8 0,.int .u8 0,.int .u8 0,.int .u8 0,.int .u8 0,.int .u8 0,.int .u8 0,.int .u8 0,.int .u8 0,.int .u8 0,.int .u8 0,.int .u8 0,.int .u8 0,.int .u64 0]) w':=fun w'=>by kernel_rfl
 go_enter func360,ntmps360;go_wp2
 go_ret
 exact⟨rfl,rfl⟩
theorem Qo1(H:List Int)(hl:H.length=8)(k:Nat)(hk:k<8)(w:World):(Instr.index 346 (.agg (cW H).toArray) (.int .i64 (k:Int))).run prog w = .ok (.int .u32 (H.getD k 0)) w:=by
 obtain⟨s0,s1,s2,s3,s4,s5,s6,s7,rfl⟩:=QbE hl;obtain rfl|rfl|rfl|rfl|rfl|rfl|rfl|rfl:k=0∨k=1∨k=2∨k=3∨k=4∨k=5∨k=6∨k=7:=by omega
 all_goals kernel_rfl
def w4(x:Int):List Int:=[IntKind.u8.wrap (x / 16777216),IntKind.u8.wrap (x / 65536),IntKind.u8.wrap (x / 256),IntKind.u8.wrap x]
def UQ(H:List Int):Nat->List Int
 | 0=>[]
 | k+1=>UQ H k++w4 (H.getD k 0)
def UR(l:List Int):List Int:=l++List.replicate (32 - l.length) 0
theorem QbK(H:List Int)(k:Nat):(UQ H k).length=4*k:=by
 induction k with
 | zero=>rfl
 | succ k ih=>simp only[UQ,List.length_append,ih,w4,List.length_cons,List.length_nil];omega
theorem Qiv{l:List Int}(h:l.length<=32):(UR l).length=32:=by simp[UR];omega
theorem Qf5{l:List Int}(h:l.length=32):UR l=l:=by simp[UR,h]
theorem Qiw{l:List Int}(h:l.length<32)(v:Int):(UR l).set l.length v=UR (l++[v]):=by
 unfold UR;rw[L4 _ _ (La _)];obtain⟨n,hn⟩ : ∃n,32 - l.length=n+1:=⟨32 - l.length - 1,by omega⟩
 have xA:32 - (l++[v]).length=n:=by simp;omega
 rw[hn,xA,IR];simp
structure Su(w wr:World)(l:List Int):Prop where
 below:Below w.heap.size w wr
 out:wr.rangeAt w.heap.size 0 (cB (UR l))
 outt:wr.there w.heap.size 0 32
theorem Su.step{w wr:World}{l:List Int}(h:Su w wr l){m:Nat}(hm:l.length=m)(hl:m<32)(v:Int):Su w (wr.setCell ⟨w.heap.size,m,none⟩ (.int .u8 v)) (l++[v]):=by
 subst hm;refine⟨h.below.setCell (La _) _,?_,QK h.outt _ _⟩
 have:=YG h.out l.length (.int .u8 v)
 rwa [Lm,QfB,Qiw hl] at this
def QU(l:List Int):BA:=l.foldl (fun r n=>r.push (UInt8.ofNat n.toNat)) ByteArray.empty
theorem Qbg(w:World)(b:Nat)(l:List Int)(n:Nat)(hl:l.length=n)(h:w.rangeAt b 0 (cB l)):(convert 127 9 (.slice (some ⟨b,0,none⟩) n n)).run prog w = .ok (.string (QU l)) w:=by
 subst hl;rw[run_convert_bytes_string w 127 9 5 _ _ _ underlying127 underlying5 underlying9];refine run_bytesToString w ⟨b,0,none⟩ l.length l.length l ?_
 have:=run_loadCells_list (P:=prog) w ⟨b,0,none⟩ (cB l) (fun j v hv=>by rw[Addr.add_mid];exact h j v hv)
 rwa [QA] at this
theorem Qau{w:World}{b i j:Nat}{v u:Value}(h:w.cell? ⟨b,i,none⟩=some u)(hne:i≠j):(w.setCell ⟨b,j,none⟩ v).cell? ⟨b,i,none⟩=some u:=by
 rw[LO _ _ _ _ (fun e=>hne (by have:=Lw Addr.off e;simpa using this.symm))];exact h
theorem Qnh(w:World)(p:Nat)(st blk:List Int)(n:Nat)(hh:Hs w p st blk n)(rs:List Int)(hrl:rs.length=64)(hr:w.rangeAt 3 0 (cW rs)) :
  Calls prog 362 #[.pointer (some ⟨p,0,none⟩)] w fun e w'=>e = .returned (.string (QU (UQ (QY rs st blk n) 8)))∧Below w.heap.size w w':=by
 obtain⟨H,hH⟩ : ∃H,H=QY rs st blk n:=⟨_,rfl⟩;have xF:H.length=8:=by rw[hH];exact Qbe _ _ _ _
 have xC:=fun(w':World) (h:Hs w' p st blk n) (h2:w'.rangeAt 3 0 (cW rs))=>closed_any w' p st blk n h rs hrl h2
 rw[<-hH] at xC;have HE:Hid (H=QY rs st blk n):=hH;clear hH;have xD:p<w.heap.size:=hh.lt;have xO:3<w.heap.size:=QE hr (by intro h;have:=Lw List.length h;simp[Qo,hrl] at this)
 have hA : ∀o,Hs (w.alloc o) p st blk n:=fun o=>hh.later ((Lb w.heap.size w).alloc (La _) o) xD
 have hR : ∀o,(w.alloc o).rangeAt 3 0 (cW rs):=fun o=>World.rangeAt_alloc hr o
 go_enter func362,ntmps362
 go_wp2_with (go_at_call 405;refine(xC _ (hA _) (hR _)).mono ?_;rintro e w' ⟨rfl,xB⟩)
 have hS:Su w w' []:=by
  have q:=Qm w (cB (List.replicate 32 0)).toArray 430 32 (by simp[QA])
  have r:=Qq w (cB (List.replicate 32 0)) 430;exact⟨((Lb _ _).alloc (La _) _).trans (xB.mono (by simp)),Qn xB (by simp) r,QT xB (by simp) q⟩
 clear xB xC hA hR
 go_loopg [8] 8 (fun g i wr => ∃k:Nat,k<=8∧g=8 - k∧i = .int .i64 k∧Su w wr (UQ H k))
 case atStart=>go_light;exact⟨0,Ll _,rfl,rfl,hS⟩
 case round =>
  clear hS;obtain⟨k,hk,rfl,rfl,hs⟩:=hrel
  by_cases xD:k<8
  ·have xQ:(0:Int)<=(k:Int):=Lf _;have xR:(k:Int)<8:=by omega
   have xG:=fun w'=>Qo1 H xF k xD w'
   obtain⟨m,hm⟩ : ∃m:Nat,4*k=m:=⟨_,rfl⟩;obtain⟨m1,xH⟩ : ∃m1:Nat,m+1=m1:=⟨_,rfl⟩;obtain⟨m2,xI⟩ : ∃m2:Nat,m+2=m2:=⟨_,rfl⟩;obtain⟨m3,xJ⟩ : ∃m3:Nat,m+3=m3:=⟨_,rfl⟩;have e0:4*(k:Int)=(m:Int):=by omega
   have e1:(m:Int)+1=(m1:Int):=by omega
   have e2:(m:Int)+2=(m2:Int):=by omega
   have e3:(m:Int)+3=(m3:Int):=by omega
   have b0:(0:Int)<=(m:Int):=Lf _;have b1:(0:Int)<=(m1:Int):=Lf _;have b2:(0:Int)<=(m2:Int):=Lf _;have b3:(0:Int)<=(m3:Int):=Lf _;have d0:(m:Int)<32:=by omega
   have d1:(m1:Int)<32:=by omega
   have d2:(m2:Int)<32:=by omega
   have d3:(m3:Int)<32:=by omega
   have xA:=QbK H k;have xK:(UR (UQ H k)).length=32:=Qiv (by omega)
   have c0:=Yg hs.out (i:=m) (by omega)
   have c1:=Yg hs.out (i:=m1) (by omega)
   have c2:=Yg hs.out (i:=m2) (by omega)
   have c3:=Yg hs.out (i:=m3) (by omega)
   have f0:wr.frozen? ⟨w.heap.size,m,none⟩=false:=by have:=(hs.outt m (by omega)).2;rwa [Lm] at this
   have f1:wr.frozen? ⟨w.heap.size,m1,none⟩=false:=by have:=(hs.outt m1 (by omega)).2;rwa [Lm] at this
   have f2:wr.frozen? ⟨w.heap.size,m2,none⟩=false:=by have:=(hs.outt m2 (by omega)).2;rwa [Lm] at this
   have f3:wr.frozen? ⟨w.heap.size,m3,none⟩=false:=by have:=(hs.outt m3 (by omega)).2;rwa [Lm] at this
   have xL:=fun v=>Qau (v:=v) c1 (show m1≠m by omega)
   have xM:=fun v v'=>Qau (v:=v') (Qau (v:=v) c2 (show m2≠m by omega)) (show m2≠m1 by omega)
   have xN:=fun v v' v''=>Qau (v:=v'') (Qau (v:=v') (Qau (v:=v) c3 (show m3≠m by omega)) (show m3≠m1 by omega)) (show m3≠m2 by omega)
   have HF:Hid (∀x0 x1 x2 x3,Su w ((((wr.setCell ⟨w.heap.size,m,none⟩ (.int .u8 x0)).setCell ⟨w.heap.size,m1,none⟩ (.int .u8 x1)).setCell ⟨w.heap.size,m2,none⟩ (.int .u8 x2)).setCell ⟨w.heap.size,m3,none⟩ (.int .u8 x3)) (UQ H k++[x0,x1,x2,x3])):=fun x0 x1 x2 x3=>by
    have:=(((hs.step (m:=m) (by omega) (by omega) x0).step (m:=m1) (by simp;omega) (by omega) x1).step (m:=m2) (by simp;omega) (by omega) x2).step (m:=m3) (by simp;omega) (by omega) x3
    simpa using this
   clear hs hm xH xI xJ c1 c2 c3 xA xK;generalize (UR (UQ H k)).getD m 0=z0 at *;generalize (UR (UQ H k)).getD m1 0=z1 at *;generalize (UR (UQ H k)).getD m2 0=z2 at *;generalize (UR (UQ H k)).getD m3 0=z3 at *;generalize hx:H.getD k 0=x at *;have HX:Hid (H.getD k 0=x):=hx;clear hx;go_wp2
   go_roundg (8 - (k+1))
   case rel =>
    go_light;refine⟨k+1,by omega,rfl,by go_num,?_⟩
    rw[UQ,HX.out];exact HF.out _ _ _ _
   case measure=>go_light;omega
  ·obtain rfl:k=8:=by omega
   have xA:=QbK H 8;have xE:=hs.out;rw[Qf5 xA] at xE;have xP:=Qbg wr w.heap.size (UQ H 8) 32 xA xE;have HB:Hid (Below w.heap.size w wr):=hs.below;have HO:Hid (UQ H 8=UQ (QY rs st blk n) 8):=by rw[HE.out];exact rfl
   clear hs xE xA;generalize UQ H 8=l at *;go_wp2
   go_ret
   exact⟨by rw[<-HO.out];rfl,HB.out⟩
theorem Qdc{blk:List Int}(h:blk.length=64){u:Nat}(hu:u<64):Jh blk u=(blk.take u++[128])++List.replicate (64 - (u+1)) 0:=by
 unfold Jh
 congr 1
 apply IZ
 intro i
 by_cases hi:i<u
 ·rw[LQ,Lk (by omega),If (by omega),Ly (by simp;omega),LQ,Lk hi]
 ·by_cases hi2:i=u
  ·subst hi2;rw[LQ,Lk (by omega),List.getElem?_set_self (by omega),LK (by simp;omega)]
   have:(blk.take i).length=i:=by simp;omega
   rw[this,Il];rfl
  ·rw[LQ,Le (by omega),Nu]
   simp;omega
theorem Qc8{rs st blk blk':List Int}{n:Nat}(h:blk.length=64)(h':blk'.length=64)(he:blk.take (n % 64)=blk'.take (n % 64)):QY rs st blk n=QY rs st blk' n:=by
 have:Jh blk (n % 64)=Jh blk' (n % 64):=by rw[Qdc h (Ia _ (by decide)),Qdc h' (Ia _ (by decide)),he]
 unfold QY;rw[this]
def shaT(rs t:List Int):List Int:=UQ (QY rs (stN rs IV t (t.length / 64)) (pad (t.drop (64*(t.length / 64)))) t.length) 8
def O9(rs t:List Int):BA:=QU (shaT rs t)
theorem Qni(w:World)(p:Nat)(rs t:List Int)(hh:Hst w p rs IV t)(hrl:rs.length=64)(hr:w.rangeAt 3 0 (cW rs)) :
  Calls prog 362 #[.pointer (some ⟨p,0,none⟩)] w fun e w'=>e = .returned (.string (O9 rs t))∧Below w.heap.size w w':=by
 obtain⟨st,xA,h1,h2,h3⟩:=hh;refine(Qnh w p st xA t.length h1 rs hrl hr).mono fun e w' ⟨he,hb⟩=>⟨?_,hb⟩
 have hd:(t.drop (64*(t.length / 64))).length=t.length % 64:=by rw[Nb];omega
 have e:QY rs st xA t.length=QY rs (stN rs IV t (t.length / 64)) (pad (t.drop (64*(t.length / 64)))) t.length:=by
  rw[<-h2];refine Qc8 h1.blkl (Um (by omega)) ?_
  rw[h3,pad,Lt (by omega),Lo (by omega)]
 rw[he,O9,shaT,e]
theorem Qmn(w:World)(rs:List Int):Hst (w.alloc (.cells ((cW IV++cB (List.replicate 64 0))++[Value.int .u64 0]).toArray 428)) w.heap.size rs IV []:=by
 have r:=Qq w ((cW IV++cB (List.replicate 64 0))++[Value.int .u64 0]) 428;have q:=Qm w ((cW IV++cB (List.replicate 64 0))++[Value.int .u64 0]).toArray 428 73 (by simp[Qo,QA,IV])
 refine⟨IV,List.replicate 64 0,⟨rfl,by simp,?_,?_,?_,q⟩,rfl,rfl⟩
 ·intro j v hv;have hj:j<8:=(List.getElem?_eq_some_iff.1 hv).1
  exact r j v (by rw[Ly (by simp[Qo,QA,IV];omega),Ly (by simp[Qo,IV];omega)];exact hv)
 ·intro j v hv;have hj:j<64:=by have:=(List.getElem?_eq_some_iff.1 hv).1;simpa [QA] using this
  have:=r (8+j) v (by rw[Ly (by simp[Qo,QA,IV];omega),LK (by simp[Qo,IV])];simpa [Qo,IV] using hv)
  rwa [Lm] at this
 ·exact r 72 _ rfl
def Qdp:Obj := .cells ((cW IV++cB (List.replicate 64 0))++[Value.int .u64 0]).toArray 428
theorem Qmo(w:World):Calls prog 360 #[] w fun e w'=>e = .returned (.pointer (some ⟨w.heap.size,0,none⟩))∧w'=w.alloc Qdp:=Qdq w
def Qk(ss:LB):List Int:=(ss.map tB).flatten
theorem UL(ss:LB)(k:Nat)(hk:k<ss.length):Qk (ss.take (k+1))=Qk (ss.take k)++tB (ss.getD k ByteArray.empty):=by
 have e:ss.getD k ByteArray.empty=ss[k]:=by rw[Ld,Lh hk];rfl
 unfold Qk;rw[LR hk,L5,List.flatten_append,e];simp only[List.map_cons,List.map_nil,List.flatten_cons,List.flatten_nil,List.append_nil]
theorem OI(ss:LB)(k:Nat):(Qk (ss.take k)).length<=(Qk ss).length:=by
 have:Qk ss=Qk (ss.take k)++Qk (ss.drop k):=by
  unfold Qk;rw[<-List.flatten_append,<-L5,Nj]
 rw[this,Lc];omega
theorem Qdu(w:World)(ao:OA)(b off len cap:Nat)(ss:LB)(hl:ss.length=len)(hao:0<len->ao=some ⟨b,off,none⟩)(hs:w.rangeAt b off (ss.map Value.string))
  (hmx:len<=9223372036854775807) (rs:List Int) (hrl:rs.length=64) (hr:w.rangeAt 3 0 (cW rs)) (hlen:(Qk ss).length<4611686018427387904) :
  Calls prog 278 #[.slice ao len cap] w fun e w'=>e = .returned (.string (O9 rs (Qk ss)))∧Below w.heap.size w w':=by
 have xI:3<w.heap.size:=QE hr (by intro h;have:=Lw List.length h;simp[Qo,hrl] at this)
 have xF:Hst (w.alloc Qdp) w.heap.size rs IV []:=Qmn w rs;have xC:Below w.heap.size w (w.alloc Qdp):=(Lb _ _).alloc (La _) _
 go_enter func278,ntmps278
 go_wp2_with (go_at_call 360;refine(Qmo _).mono ?_;rintro e w' ⟨rfl,rfl⟩)
 generalize w.alloc Qdp=w1 at *
 go_loopg [9] len (fun g i wr => ∃k:Nat,k<=len∧g=len - k∧i = .int .i64 k∧Hst wr w.heap.size rs IV (Qk (ss.take k))∧Below w.heap.size w wr)
 case atStart=>go_light;exact⟨0,Ll _,rfl,rfl,xF,xC⟩
 case round =>
  clear xF xC;obtain⟨k,hk,rfl,rfl,hh,hb⟩:=hrel;have xG:wr.rangeAt 3 0 (cW rs):=Qn hb xI hr
  by_cases hlt:k<len
  ·obtain rfl:=hao (by omega)
   have xD:k<ss.length:=by omega
   have xK:b<w.heap.size:=QE hs (by intro h;have:=Lw List.length h;rw[Nc,NL] at this;omega)
   have ck:wr.cell? ⟨b,off+k,none⟩=some (.string (ss.getD k ByteArray.empty)):=by
    rw[hb.cell (p:=⟨b,off+k,none⟩) xK];exact hs k _ (by simp[List.getElem?_eq_getElem xD,List.getD_eq_getElem?_getD])
   have hz:(k:Int)<(len:Int):=by omega
   have xH:(Qk (ss.take (k+1))).length<=(Qk ss).length:=OI _ _;have xB:=UL ss k xD;have xE:(Qk (ss.take k)).length+(ss.getD k ByteArray.empty).size<4611686018427387904:=by
    rw[xB,Lc,Yj] at xH;omega
   have hw:=QaG wr w.heap.size rs IV (Qk (ss.take k)) (ss.getD k ByteArray.empty) hrl xG hh xE;rw[<-xB] at hw;have HB:Hid (Below w.heap.size w wr):=hb;have HZ:Hid (w.heap.size<=wr.heap.size):=hb.size;clear xB xH xE hh hb hs hao;generalize ss.getD k ByteArray.empty=part at *
   go_wp2_with (go_at_call 361;refine hw.mono ?_;rintro e w' ⟨rfl,xM,xL⟩)
   go_roundg (len - (k+1))
   case rel=>go_light;exact⟨k+1,by omega,rfl,by go_num,xM,HB.out.grown xL HZ.out (fun j hj=>by cases hj;exact La _)⟩
   case measure=>go_light;omega
  ·obtain rfl:k=len:=by omega
   have hz : ¬(k:Int)<(k:Int):=by omega
   have xA:=Qni wr w.heap.size rs _ hh hrl xG;rw[Lo (by omega)] at xA
   have HB:Hid (Below w.heap.size w wr):=hb;have HZ:Hid (w.heap.size<=wr.heap.size):=hb.size;clear hh hb
   go_wp2_with (go_at_call 362;refine xA.mono ?_;rintro e w' ⟨rfl,xJ⟩)
   go_ret
   exact⟨rfl,HB.out.trans (xJ.mono HZ.out)⟩
def RS:List Int:=[1116352408,1899447441,3049323471,3921009573,961987163,1508970993,2453635748,2870763221,3624381080,310598401,607225278,1426881987,1925078388,2162078206,2614888103,3248222580,3835390401,4022224774,264347078,604807628,770255983,1249150122,1555081692,1996064986,2554220882,2821834349,2952996808,3210313671,3336571891,3584528711,113926993,338241895,666307205,773529912,1294757372,1396182291,1695183700,1986661051,2177026350,2456956037,2730485921,2820302411,3259730800,3345764771,3516065817,3600352804,4094571909,275423344,430227734,506948616,659060556,883997877,958139571,1322822218,1537002063,1747873779,1955562222,2024104815,2227730452,2361852424,2428436474,2756734187,3204031479,3329325298]
theorem Of:RS.length=64:=rfl
end Go.Proofs.YtoblgjledefdbaaGreatDoor
