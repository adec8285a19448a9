/- Own work. -/
import Derived.Deep.CutRange
import Derived.Lib.LazyBuf
import Derived.Lib.BufferOwn
import Derived.Test.YtoblgjledefdbabGreatDoorQs00
set_option maxRecDepth 100000
set_option maxHeartbeats 2000000
namespace Go.Proofs.YtoblgjledefdbabGreatDoor
open Go.RowKit
attribute [local go_sem ↓] Go.wp_at_zero Go.wp_at_succ
open Go.Proofs.Tryz
theorem QnQ(w:World):(Go.sizeOf 5).run prog w= .ok 1 w:=by kernel_rfl
theorem QpZ(w:World):(zeroValue 5).run prog w= .ok (.int .u8 0) w:=by kernel_rfl
theorem QbV(b o v:Nat)(m:Nat)(hm:v+m=64)(h0:0<m)(w:World) :
  (Instr.sliceAt 304 (.pointer (some ⟨b,o,none⟩)) (some (.int .i64 v)) none none).run prog w= .ok (.slice (some ⟨b,o+v,none⟩) m m) w:=by
 have h:=run_sliceAt_array_l (P:=prog) w 304 ⟨b,o,none⟩ (by kernel_rfl) .i64 (v:Int) (Lf _) (by
  have e:prog.arrayLen 304=64:=by kernel_rfl
  rw[e];omega)
 have e:prog.arrayLen 304=64:=by kernel_rfl
 have e2:prog.elem 304=5:=by kernel_rfl
 rw[h,e,e2,QnQ];have e3:64-v=m:=by omega
 have e4:¬64=v:=by omega
 simp[slicedAt,e3,e4,Addr.add_mid]
theorem Qfu(w:World)(b o m:Nat)(h0:0<m)(ht:w.there b o m) :
  (Builtin.clear_ #[83] 0 #[.slice (some ⟨b,o,none⟩) m m]).run prog w= .ok (.tuple #[]) (w.setCells b o (List.replicate m (.int .u8 0))) :=
 Lib.run_clear_slice w 83 5 0 (.int .u8 0) underlying83 QpZ rfl rfl b o m m h0 (fun j hj=>(ht j hj).1) (fun j hj=>(ht j hj).2)
theorem Qft(w:World)(a:OA):(Builtin.clear_ #[83] 0 #[.slice a 0 0]).run prog w= .ok (.tuple #[]) w:=by
 cases a <;> simp[Builtin.clear_,run_underlying underlying83]
theorem J6(n u:Nat)(h:Hid (n%64=u))(w:World)(b:Nat)(hc:w.cell? ⟨b,72,none⟩=some (.int .u64 n)) :
  Calls prog 236 #[Zv b] w fun e w'=>e= .returned (.int .i64 u)∧w'=w:=by
 refine(Qe9 n w b (Lf _) hc).mono ?_
 rintro e w' ⟨rfl,rfl⟩;have h:=h.out;exact⟨by rw[show((n:Int)%64)=(u:Int) by omega],rfl⟩
theorem closed_any (w:World) (p:Nat) (st blk:List Int) (n:Nat) (hh:Hs w p st blk n) (rs:List Int) (hrl:rs.length=64) (hr:w.rangeAt 2 0 (cW rs)) :
    Calls prog 238 #[Zv p] w fun e w'=>e= .returned (.agg (cW (QX rs st blk n)).toArray)∧Below w.heap.size w w':=by
  obtain⟨s0,s1,s2,s3,s4,s5,s6,s7,rfl⟩:=Qbz hh.stl;have hp:p<w.heap.size:=Ll _ _ hh.len;have hl:=hh.blkl;have h1w:2<w.heap.size:=QH hr (by intro h;have:=LZ List.length h;simp[Ql,hrl] at this)
  have c0:w.cell? ⟨p,0,none⟩=some (.int .u32 s0):=Qd hh.st (i:=0) (by simp)
  have c1:w.cell? ⟨p,1,none⟩=some (.int .u32 s1):=Qd hh.st (i:=1) (by simp)
  have c2:w.cell? ⟨p,2,none⟩=some (.int .u32 s2):=Qd hh.st (i:=2) (by simp)
  have c3:w.cell? ⟨p,3,none⟩=some (.int .u32 s3):=Qd hh.st (i:=3) (by simp)
  have c4:w.cell? ⟨p,4,none⟩=some (.int .u32 s4):=Qd hh.st (i:=4) (by simp)
  have c5:w.cell? ⟨p,5,none⟩=some (.int .u32 s5):=Qd hh.st (i:=5) (by simp)
  have c6:w.cell? ⟨p,6,none⟩=some (.int .u32 s6):=Qd hh.st (i:=6) (by simp)
  have c7:w.cell? ⟨p,7,none⟩=some (.int .u32 s7):=Qd hh.st (i:=7) (by simp)
  have c72:=hh.len;have hrb:=hh.blk;have hu:=underlying304;obtain⟨u,hun⟩:∃u:Nat,n%64=u:=⟨_,rfl⟩;have hu64:Hid (n%64=u):=hun;clear hun;have hi:(prog.info? 304).map (·.size)=some (cB blk).length:=by rw[Qu,hl];exact Qas
  have hl':(cB blk).length=64:=by rw[Qu,hl]
  have h1:=Qac blk;have hA:∀(r o:Obj),(((w.alloc r).alloc o).alloc (.cells Zc 304)).drew.there (w.heap.size+1+1) 0 64:=fun r o=>by
    have q2:=Qm ((w.alloc r).alloc o) (cB (List.replicate 64 0)).toArray 304 64 (by simp[Qu])
    simp only[World.size_alloc] at q2;rw[World.there_drew];exact q2
  have hB:∀(r o:Obj),(((w.alloc r).alloc (.cells Zc 304)).alloc o).drew.there (w.heap.size+1) 0 64:=fun r o=>by
    have q2:=Qm (w.alloc r) (cB (List.replicate 64 0)).toArray 304 64 (by simp[Qu])
    simp only[World.size_alloc] at q2;rw[World.there_drew];exact World.there_alloc q2 _
  have HK:Hid (∀w',Below w.heap.size w w'->(w'.cell? ⟨p,0,none⟩=some (.int .u32 s0)∧w'.cell? ⟨p,1,none⟩=some (.int .u32 s1)∧w'.cell? ⟨p,2,none⟩=some (.int .u32 s2)∧w'.cell? ⟨p,3,none⟩=some (.int .u32 s3)∧w'.cell? ⟨p,4,none⟩=some (.int .u32 s4)∧w'.cell? ⟨p,5,none⟩=some (.int .u32 s5)∧w'.cell? ⟨p,6,none⟩=some (.int .u32 s6)∧w'.cell? ⟨p,7,none⟩=some (.int .u32 s7)∧w'.cell? ⟨p,72,none⟩=some (.int .u64 n)∧w'.rangeAt p 8 (cB blk)∧Below w.heap.size w w')):=fun w' hb=>by
    refine⟨?_,?_,?_,?_,?_,?_,?_,?_,?_,Qk hb hp hrb,hb⟩ <;> (rw[hb.cell hp];assumption)
  have HH:Hid (Hs w p [s0,s1,s2,s3,s4,s5,s6,s7] blk n):=hh;clear hh
  go_enter func238,ntmps238;go_wp2
  go_cut [3,4,5] from 8 (fun q3 q4 q5 wc=> ∃bs bl:Nat,q3=Zv bs∧q4=Zv bl∧q5= .int .i64 u∧Cl w wc [s0,s1,s2,s3,s4,s5,s6,s7] blk bs bl)
  case first=>
   go_region_held3 (fun w'=>w'.cell? ⟨p,0,none⟩=some (.int .u32 s0)∧w'.cell? ⟨p,1,none⟩=some (.int .u32 s1)∧w'.cell? ⟨p,2,none⟩=some (.int .u32 s2)∧w'.cell? ⟨p,3,none⟩=some (.int .u32 s3)∧w'.cell? ⟨p,4,none⟩=some (.int .u32 s4)∧w'.cell? ⟨p,5,none⟩=some (.int .u32 s5)∧w'.cell? ⟨p,6,none⟩=some (.int .u32 s6)∧w'.cell? ⟨p,7,none⟩=some (.int .u32 s7)∧w'.cell? ⟨p,72,none⟩=some (.int .u64 n)∧w'.rangeAt p 8 (cB blk)∧Below w.heap.size w w')
    ((refine HK.out _ ?_;repeat (first|exact Lc _ _|assumption|apply NF|(refine Below.alloc ?_ (by simp <;> omega) _)|(refine Qo ?_ (by omega) _ _)))) (first|(go_at_call 236;refine(J6 n u hu64 _ p ?_).mono ?_;(simp[*]);rintro e w' ⟨rfl,rfl⟩))
   all_goals
     go_wp2
     go_meet
     case rel=>
      go_light
      first
        | exact⟨_,_,rfl,rfl,rfl,Cl.one w [s0,s1,s2,s3,s4,s5,s6,s7] blk rfl hl [0,0,0,0,0,0,0,0] rfl (List.replicate 64 0) rfl 85 85 304⟩
        | exact⟨_,_,rfl,rfl,rfl,Cl.two w [s0,s1,s2,s3,s4,s5,s6,s7] blk rfl hl [0,0,0,0,0,0,0,0] rfl (List.replicate 64 0) rfl 85 85 304⟩
  case rest=>
   obtain⟨bs,bl,rfl,rfl,rfl,hcl⟩:=hcut;clear hA hB HK c0 c1 c2 c3 c4 c5 c6 c7;have hu0:(0:Int)<=(u:Int):=Lf _;have hu1:(u:Int)<64:=by have:=hu64.out;omega
   have cu:wc.cell? ⟨bl,u,none⟩=some (.int .u8 (blk.getD u 0)):=Yg hcl.last (by omega)
   have fu:wc.frozen? ⟨bl,u,none⟩=false:=by have:=(hcl.lastt u (by omega)).2;rwa [Lp] at this
   have HC:Hid (Cl w (wc.setCell ⟨bl,u,none⟩ (.int .u8 128)) [s0,s1,s2,s3,s4,s5,s6,s7] (blk.set u 128) bs bl):=hcl.set u 128;clear hcl;obtain⟨v,hv⟩:∃v:Nat,u+1=v:=⟨_,rfl⟩;have ev:(u:Int)+1=(v:Int):=by omega
   have HV:Hid (u+1=v):=hv;clear hv
   go_upto_region 3 with (fail)
   go_cut [] from 18 (fun wx=>Cl w wx [s0,s1,s2,s3,s4,s5,s6,s7] (Jo blk u) bs bl)
   case first=>
    by_cases h63:v=64
    · subst h63;have hclr:(Builtin.clear_ #[83] 0 #[.slice (Zp bl) 0 0]).run prog (wc.setCell ⟨bl,u,none⟩ (.int .u8 128))= .ok (.tuple #[]) (wc.setCell ⟨bl,u,none⟩ (.int .u8 128)):=Qft _ _;go_wp2
      go_meet
      case rel=>
        go_light;have h1:=HC.out;have h2:=HV.out;have e:Jo blk u=blk.set u 128:=by
          unfold Jo;rw[Lu (by simp;omega)];simp;omega
        rw[e];exact h1
    · obtain⟨m,hm⟩:∃m:Nat,v+m=64:=⟨64-v,by have:=HV.out;omega⟩
      have hm0:0<m:=by omega
      have hsl:=fun w'=>QbV bl 0 v m hm hm0 w'
      have hclr:(Builtin.clear_ #[83] 0 #[.slice (some ⟨bl,v,none⟩) m m]).run prog (wc.setCell ⟨bl,u,none⟩ (.int .u8 128))= .ok (.tuple #[]) ((wc.setCell ⟨bl,u,none⟩ (.int .u8 128)).setCells bl v (List.replicate m (.int .u8 0))):=Qfu _ _ _ _ hm0 (fun j hj=>by
        have:=HC.out.lastt (v+j) (by omega)
        rwa [Lp] at this)
      simp only[Nat.zero_add] at hsl;have HM:Hid (v+m=64):=hm;clear hm;go_wp2
      go_meet
      case rel=>
        go_light;have h1:=HC.out.rest v (by have:=HM.out;omega)
        have h2:=HV.out;have e:64-v=m:=by have:=HM.out;omega
        rw[e] at h1;unfold Jo;rw[h2,e];exact h1
   case rest=>
    have hcl:=hcut;clear hcut HC cu fu;have HB:Hid (∃b8,b8=IntKind.u64.wrap ((n:Int)*8)):=⟨_,rfl⟩
    go_upto_if 26 with (fail)
    go_cut [] from 18 (fun wx=> ∃st2 last2:List Int,Hid (QX rs [s0,s1,s2,s3,s4,s5,s6,s7] blk n=YJ rs st2 (Y3 last2 (IntKind.u64.wrap ((n:Int)*8)) 8))∧Cl w wx st2 last2 bs bl)
    case first=>
      by_cases h55:v+8<=64
      · have h55':¬((64:Int)<(v:Int)+8):=by omega
        go_wp2
        go_meet
        case rel=>
          go_light;refine⟨_,_,?_,hcl⟩
          have h2:=HV.out;have h3:=hu64.out
          show _=_
          unfold QX;rw[Le (by omega),h3]
      · have h55':(64:Int)<(v:Int)+8:=by omega
        have hi34:(prog.info? 85).map (·.size)=some (cW [s0,s1,s2,s3,s4,s5,s6,s7]).length:=Uf;have hle:=Qjf hl (show u<64 by omega)
        have hi35:(prog.info? 304).map (·.size)=some (cB (Jo blk u)).length:=by rw[Qu,hle];exact Qas
        have hrc:wc.rangeAt 2 0 (cW rs):=Qk hcl.below h1w hr;have hst:=hcl.st;have hla:=hcl.last;have HL:Hid (∀w',Below wc.heap.size wc w'->Cl w w' [s0,s1,s2,s3,s4,s5,s6,s7] (Jo blk u) bs bl):=fun w' hb=>hcl.later hb
        clear hcl;have hfo:=fun w'=>Og [s0,s1,s2,s3,s4,s5,s6,s7] rfl (Jo blk u) hle w' rs hrl
        generalize hF:YJ rs [s0,s1,s2,s3,s4,s5,s6,s7] (Jo blk u)=F at hfo;have hFl:F.length=8:=by rw[<-hF];rfl
        have hiF:(prog.info? 85).map (·.size)=some (cW F).toArray.size:=by rw[IU,Ql,hFl];exact Uf
        have HF:Hid (YJ rs [s0,s1,s2,s3,s4,s5,s6,s7] (Jo blk u)=F):=hF;clear hF
        go_wp2_with (first|(refine wpList_load_mid rfl 85 _ rfl bs 0 rfl _ _ hst underlying85 rfl hi34 ?_)|(refine wpList_load_mid rfl 304 _ rfl bl 0 rfl _ _ hla underlying304 rfl hi35 ?_)|(go_at_call 237;refine(hfo _ hrc).mono ?_;rintro e w' ⟨rfl,hbw⟩)|(refine wpList_store_mid rfl 85 _ _ rfl bs 0 (cW F).toArray rfl rfl ?_ hiF (all_oneCell_toArray (Ua F)) ?_;exact(by rw[IU,Ql,hFl];exact(HL.out _ hbw).stt))|(refine wpList_store_mid rfl 304 _ _ rfl bl 0 (cB (List.replicate 64 0)).toArray rfl rfl ?_ Qas (all_oneCell_toArray (Qac _)) ?_;exact((HL.out _ hbw).storeSt F hFl).lastt))
        go_simp
        go_meet
        case rel=>
          go_light;refine⟨_,_,?_,((HL.out _ hbw).storeSt F hFl).storeLast _ rfl⟩
          have h2:=HV.out;have h3:=hu64.out
          show _=_
          unfold QX;rw[Lo (by omega),h3,HF.out]
          rfl
    case rest=>
      obtain⟨st2,last2,HC,hcl⟩:=hcut;have c72':wc.cell? ⟨p,72,none⟩=some (.int .u64 n):=by rw[hcl.below.cell (p:=⟨p,72,none⟩) hp];exact c72
      go_wp2;generalize hb8:IntKind.u64.wrap ((n:Int)*8)=b8 at *;clear hb8
      go_loopg [36] 8 (fun g i wr=> ∃k:Nat,k<=8∧g=8-k∧i= .int .i64 k∧Cl w wr st2 (Y3 last2 b8 k) bs bl)
      case atStart=>go_light;exact⟨0,Lm _,rfl,rfl,hcl⟩
      case round=>
        clear hcl c72';obtain⟨k,hk,rfl,rfl,hcl⟩:=hrel
        by_cases hlt:k<8
        · have hk0:(0:Int)<=(k:Int):=Lf _;have hk8:(k:Int)<8:=by omega
          obtain⟨m,hm⟩:∃m:Nat,k+m=63:=⟨63-k,by omega⟩
          obtain⟨m8,hm8⟩:∃m8:Nat,8*k=m8:=⟨_,rfl⟩;have em:(63:Int)-(k:Int)=(m:Int):=by omega
          have em8:(8:Int)*(k:Int)=(m8:Int):=by omega
          have bm0:(0:Int)<=(m:Int):=Lf _;have bm1:(m:Int)<64:=by omega
          have b80:(0:Int)<=(m8:Int):=Lf _;have b81:(m8:Int)<64:=by omega
          have cm:wr.cell? ⟨bl,m,none⟩=some (.int .u8 ((Y3 last2 b8 k).getD m 0)):=Yg hcl.last (by have:=hcl.lastl;omega)
          have fm:wr.frozen? ⟨bl,m,none⟩=false:=by have:=(hcl.lastt m (by omega)).2;rwa [Lp] at this
          have HF:Hid (∀x,Cl w (wr.setCell ⟨bl,m,none⟩ (.int .u8 x)) st2 ((Y3 last2 b8 k).set m x) bs bl):=fun x=>hcl.set m x
          have HV:Hid (Y3 last2 b8 (k+1)=(Y3 last2 b8 k).set m (IntKind.u8.wrap (b8/2^m8))):=by
            show _=_
            rw[Y3,<-hm8,show 63-k=m by omega]
          clear hcl hm hm8;generalize (Y3 last2 b8 k).getD m 0=z at *;go_wp2
          go_roundg (8-(k+1))
          case rel=>
            go_light;refine⟨k+1,by omega,rfl,by go_num,?_⟩
            rw[HV.out];exact HF.out _
          case measure=>go_light;omega
        · obtain rfl:k=8:=by omega
          clear hk hlt;have hi34:(prog.info? 85).map (·.size)=some (cW st2).length:=by rw[Ql,hcl.stl];exact Uf
          have hi35:(prog.info? 304).map (·.size)=some (cB (Y3 last2 b8 8)).length:=by rw[Qu,hcl.lastl];exact Qas
          have hrc:wr.rangeAt 2 0 (cW rs):=Qk hcl.below h1w hr;have hst:=hcl.st;have hla:=hcl.last;have HL:Hid (∀w',Below wr.heap.size wr w'->Cl w w' st2 (Y3 last2 b8 8) bs bl):=fun w' hb=>hcl.later hb
          have hfo:=fun w'=>Og st2 hcl.stl (Y3 last2 b8 8) hcl.lastl w' rs hrl
          clear hcl;rw[<-HC.out] at hfo;have hFl:=Qba rs [s0,s1,s2,s3,s4,s5,s6,s7] blk n;generalize hE:QX rs [s0,s1,s2,s3,s4,s5,s6,s7] blk n=F at hfo hFl;have hiF:(prog.info? 85).map (·.size)=some (cW F).toArray.size:=by rw[IU,Ql,hFl];exact Uf
          have hszF:(cW F).toArray.size=8:=by simp[Ql,hFl]
          have hiF2:(prog.info? 85).map (·.size)=some (cW F).length:=by rw[Ql,hFl];exact Uf
          have HE:Hid (QX rs [s0,s1,s2,s3,s4,s5,s6,s7] blk n=F):=hE;clear hE HC
          go_wp2_with (first|(refine wpList_load_mid rfl 85 _ rfl bs 0 rfl _ _ hst underlying85 rfl hi34 ?_)|(refine wpList_load_mid rfl 304 _ rfl bl 0 rfl _ _ hla underlying304 rfl hi35 ?_)|(go_at_call 237;refine(hfo _ hrc).mono ?_;rintro e w' ⟨rfl,hbw⟩)|(refine wpList_store_mid rfl 85 _ _ rfl w.heap.size 0 (cW F).toArray rfl rfl ?_ hiF (all_oneCell_toArray (Ua F)) ?_;exact(by rw[hszF];exact(HL.out _ hbw).res)))
          refine LA (v := .agg (cW F).toArray) ?_ rfl ⟨by rw[HE.out],?_⟩
          · refine QZ results238 _ _ w.heap.size 0 (cW F) (.array 8 55) ?_ ?_ underlying85 rfl hiF2
            · rfl
            · go_light;exact World.rangeAt_setCells_same _ _ _ _ (by rw[Ql,hFl];exact(HL.out _ hbw).res)
          · go_light;exact Qo (HL.out _ hbw).below (Lb _) _ _
def tB(s:BA):List Int:=s.data.toList.map fun x=>(x.toNat:Int)
theorem Yc(s:BA):(tB s).length=s.size:=by simp[tB]
theorem Qpu(s:BA):cB (tB s)=s.data.toList.map fun x=>Value.int .u8 x.toNat:=by simp[cB,tB,List.map_map,Function.comp_def]
theorem QdK{P:Program}(w:World)(dT sT ty elem:TypeId)(b o dLen dCap c:Nat)(t:BA)
  (hu:P.underlying dT=some (.slice elem)) (hz:∀w,(Go.sizeOf elem).run P w= .ok 1 w) (hc:Nat.min t.size dLen=c) (ht:w.there b o c) :
  (Builtin.copy_ #[dT,sT] ty #[.slice (some ⟨b,o,none⟩) dLen dCap,.string t]).run P w= .ok (goInt c) (w.setCells b o (cB ((tB t).take c))):=by
 have hle:c<=t.size:=by rw[<-hc];exact I4 _ _
 have hl:(cB ((tB t).take c)).length=c:=by rw[Qu,Lv,Yc];omega
 have hst:=run_storeCells_cells (P:=P) b o (cB ((tB t).take c)) 0 w (by rw[hl];intro j hj;simpa using (ht j hj).1) (by rw[hl];intro j hj;simpa using (ht j hj).2) (Qac _)
 have he:List.take c (List.map (fun x:UInt8=>Value.int IntKind.u8 (x.toNat:Int)) t.data.toList)=cB ((tB t).take c):=by
  rw[<-Qpu];simp[cB,List.map_take]
 simp only[Nat.add_zero] at hst;simp[Builtin.copy_,run_underlying hu,Builtin.lenOf,Builtin.firstCells,hz,hc];rw[he,hst]
 rfl
theorem Qb7{P:Program}{ops:Array Oper}{o:Oper}{a:Act}{w:World}{K:Act->World->Prop}{Q:Exit->Act->World->Prop}{E:Prop}
  (hg:o.guard=none) (d x:Operand) (dT sT:TypeId) (hop:o.op=Op.call { callee:=Callee.builtin Builtin.copy,args:=#[d,x],argTypes:=#[dT,sT] })
  (elem:TypeId) (hu:P.underlying dT=some (.slice elem)) (hz:∀w,(Go.sizeOf elem).run P w= .ok 1 w)
  (b off dLen dCap c:Nat) (hd:a.eval d= .slice (some ⟨b,off,none⟩) dLen dCap) (t:BA) (hx:a.eval x= .string t) (hc:Nat.min t.size dLen=c) (ht:w.there b off c)
  (hK:K (a.put o.dst (goInt c)) (w.setCells b off (cB ((tB t).take c)))) :
  if Region.wanted o (yielded ops a.tmps)=true then Oper.wp P o a w K Q else E:=by
 have hw:Region.wanted o (yielded ops a.tmps)=true:=by simp[Region.wanted,hg]
 rw[Lo hw];have hrun:=QdK (P:=P) w dT sT o.type elem b off dLen dCap c t hu hz hc ht;unfold Oper.wp;simp[execOp,hop,resolve,invoke,builtin,hd,hx,hrun,Result.andThen];exact hK
theorem JW{w:World}{b o:Nat}{cs:List Value}(h:w.rangeAt b o cs)(k:Nat)(vs:List Value)(hk:k+vs.length<=cs.length)(ht:w.there b (o+k) vs.length) :
  (w.setCells b (o+k) vs).rangeAt b o (cs.take k++vs++cs.drop (k+vs.length)):=fun j u hu=>by
 have hlen:(cs.take k).length=k:=by simp;omega
 by_cases hj:j<k
 ·rw[LP,LG (by omega),Nf,Lo hj] at hu
  rw[World.cell?_setCells_out b vs (o+k) w ⟨b,o+j,none⟩ (fun _ _=>Or.inl (by show o+j<o+k;omega))]
  exact h j u hu
 ·by_cases hj2:j<k+vs.length
  ·rw[LG (by simp;omega),LW (by omega),hlen] at hu
   have:=World.cell?_setCells_in b vs (o+k) w (fun i hi=>(ht i hi).1) (j-k) (by omega)
   rw[show o+k+(j-k)=o+j by omega] at this
   rw[this,<-hu,Ld (by omega)]
  ·rw[LW (by simp;omega)] at hu
   rw[Nx,show k+vs.length+(j-(cs.take k++vs).length)=j by simp;omega] at hu
   rw[World.cell?_setCells_out b vs (o+k) w ⟨b,o+j,none⟩ (fun _ _=>Or.inr (by show o+k+vs.length<=o+j;omega))]
   exact h j u hu
def stN(rs iv t:List Int):Nat->List Int
 | 0=>iv
 | k+1=>YJ rs (stN rs iv t k) ((t.drop (64*k)).take 64)
theorem Ok(rs iv t x:List Int)(k:Nat)(h:64*k<=t.length):stN rs iv (t++x) k=stN rs iv t k:=by
 induction k with
 | zero=>rfl
 | succ k ih=>
  rw[stN,stN,ih (by omega),L9 (by omega),LH (by simp;omega)]
theorem QdP{rs iv t:List Int}(h:iv.length=8)(k:Nat):(stN rs iv t k).length=8:=by
 cases k with
 | zero=>exact h
 | succ k=>exact QhG _ _ _
def Hst(w:World)(p:Nat)(rs iv t:List Int):Prop :=
 ∃st blk,Hs w p st blk t.length∧st=stN rs iv t (t.length/64)∧blk.take (t.length%64)=t.drop (64*(t.length/64))
def blkC(blk x:List Int)(u:Nat):List Int:=blk.take u++x++blk.drop (u+x.length)
theorem Qa2{blk x:List Int}{u:Nat}(h:blk.length=64)(hu:u+x.length<=64):(blkC blk x u).length=64:=by simp[blkC,h];omega
theorem Qce{blk x t:List Int}{u:Nat}(h:blk.length=64)(_hu:u+x.length<=64)(ht:t.length%64=u)(hb:blk.take u=t.drop (64*(t.length/64))) :
  (blkC blk x u).take (u+x.length)=(t++x).drop (64*(t.length/64)):=by
 have e:(blk.take u++x).length=u+x.length:=by simp[h];omega
 rw[blkC,LH (by omega),Lu (by omega),hb,L9 (by omega)]
theorem Qi6{t x:List Int}(h:t.length%64+x.length<64):(t++x).length/64=t.length/64∧(t++x).length%64=t.length%64+x.length:=by
 simp only[List.length_append];omega
theorem Qi5{t x:List Int}(h:t.length%64+x.length=64):(t++x).length/64=t.length/64+1∧(t++x).length%64=0:=by
 simp only[List.length_append];omega
theorem Hs.copied{w:World}{p:Nat}{st blk:List Int}{n:Nat}(h:Hs w p st blk n)(u:Nat)(x:List Int)(hu:u+x.length<=64):Hs (w.setCells p (8+u) (cB x)) p st (blkC blk x u) n:=by
 have hl:=h.blkl;refine⟨h.stl,Qa2 hl hu,?_,?_,?_,World.there_setCells h.there _ _ _⟩
 ·exact World.rangeAt_setCells_apart h.st _ _ _ (by right;left;rw[Ql,h.stl];omega)
 ·have:=JW h.blk u (cB x) (by rw[Qu,Qu,hl];omega) (fun j hj=>by
   rw[Qu] at hj;have:=h.there (8+u+j) (by omega)
   rwa [Lp] at this)
  simpa [blkC,cB,List.map_take,List.map_drop] using this
 ·rw[World.cell?_setCells_out p (cB x) (8+u) w ⟨p,72,none⟩ (fun _ _=>by right;show 8+u+(cB x).length<=72;rw[Qu];omega)]
  exact h.len
theorem Hs.setLen{w:World}{p:Nat}{st blk:List Int}{n:Nat}(h:Hs w p st blk n)(m:Nat):Hs (w.setCell ⟨p,72,none⟩ (.int .u64 m)) p st blk m:=by
 have hl:=h.blkl;have hs:=h.stl;refine⟨h.stl,h.blkl,?_,?_,?_,QL h.there _ _⟩
 ·intro j u hu;have hj:j<8:=by have:=(List.getElem?_eq_some_iff.1 hu).1;rw[Ql,hs] at this;exact this
  rw[Lz _ _ _ _ (fun e=>by have:=LZ Addr.off e;simp at this;omega)]
  exact h.st j u hu
 ·intro j u hu;have hj:j<64:=by have:=(List.getElem?_eq_some_iff.1 hu).1;rw[Qu,hl] at this;exact this
  rw[Lz _ _ _ _ (fun e=>by have:=LZ Addr.off e;simp at this;omega)]
  exact h.blk j u hu
 ·exact LU _ _ _ h.len
theorem Hs.setState{w:World}{p:Nat}{st blk:List Int}{n:Nat}(h:Hs w p st blk n)(st':List Int)(hs':st'.length=8):Hs (w.setCells p 0 (cW st')) p st' blk n:=by
 refine⟨hs',h.blkl,?_,?_,?_,World.there_setCells h.there _ _ _⟩
 ·exact World.rangeAt_setCells_same _ _ _ _ (by rw[Ql,hs'];exact fun j hj=>h.there j (by omega))
 ·exact World.rangeAt_setCells_apart h.blk _ _ _ (by right;right;rw[Ql,hs'];omega)
 ·rw[World.cell?_setCells_out p (cW st') 0 w ⟨p,72,none⟩ (fun _ _=>by right;show 0+(cW st').length<=72;rw[Ql,hs'];omega)]
  exact h.len
theorem Hs.drew{w:World}{p:Nat}{st blk:List Int}{n:Nat}(h:Hs w p st blk n):Hs w.drew p st blk n :=
 ⟨h.stl,h.blkl,by rw[World.rangeAt_drew];exact h.st,by rw[World.rangeAt_drew];exact h.blk,h.len,by rw[World.there_drew];exact h.there⟩
theorem JA{a w:World}{b:Nat}(h:a.grownBy w (some b))(o:Nat)(vs:List Value):a.grownBy (w.setCells b o vs) (some b):=by
 induction vs generalizing o w with
 | nil=>exact h
 | cons c r ih=>exact ih (Lib.grownBy_setB h o c) (o+1)
theorem Qep{a w w':World}{b:Nat}(h:a.grownBy w (some b))(hb:Below w.heap.size w w'):a.grownBy w' (some b) :=
 Lib.grownBy_trans h ⟨hb.os,hb.tape,hb.output,hb.size,fun k hk _=>hb.block k hk⟩
theorem Qbq{a w:World}{b:Nat}(h:a.grownBy w (some b)):a.grownBy w.drew (some b):=⟨h.os,h.tape,h.output,h.size,h.block⟩
theorem QeP{a w:World}{b c o:Nat}{cs:List Value}(h:a.grownBy w (some b))(hne:c≠b)(hr:a.rangeAt c o cs):w.rangeAt c o cs:=fun j u hu=>by
 have h1:=hr j u hu;have hlt:=Ll _ _ h1;rw[Lq (w:=a) (h.block c hlt (fun e=>hne (NN e)))]
 exact h1
theorem Hs.ne_rounds{w:World}{p q:Nat}{st blk:List Int}{n:Nat}(h:Hs w p st blk n){rs:List Int}(hl:rs.length=64)(hr:w.rangeAt q 0 (cW rs)):q≠p:=by
 rintro rfl;have h1:=Qd hr (i:=8) (by omega)
 have h2:=Qgv h.blk (i:=0) (by have:=h.blkl;omega)
 rw[IW,h1] at h2;injection h2 with h2
 injection h2 with h2
 cases h2
theorem QbX(r:BA)(c:Nat):tB (r.extract c r.size)=(tB r).drop c:=by
 have:(r.extract c r.size).data.toList=r.data.toList.drop c:=by
  rw[Il];simp[Array.toList_extract,List.extract]
  apply Lu
  simp
 rw[tB,this,tB,IJ]
theorem Qo6{r:BA}(h:r.size=0):tB r=[]:=by
 have:=Yc r;rw[h] at this;exact List.length_eq_zero_iff.1 this
theorem Hst.full{w:World}{p:Nat}{rs iv t x st blk:List Int}{u:Nat}(hl:blk.length=64)(hu:t.length%64=u)(hx:u+x.length=64)
  (hst:st=stN rs iv t (t.length/64)) (hb:blk.take u=t.drop (64*(t.length/64))) (h:Hs w p (YJ rs st (blkC blk x u)) (blkC blk x u) (t++x).length):Hst w p rs iv (t++x):=by
 have hd:=Qi5 (t:=t) (x:=x) (by omega)
 have hk:=Qce (x:=x) hl (by omega) hu hb
 rw[hx,Lu (by rw[Qa2 hl (by omega)];exact Lb _)] at hk
 refine⟨_,_,h,?_,?_⟩
 ·rw[hd.1,stN,Ok _ _ _ _ _ (by omega),<-hst,<-hk,Lu (by rw[Qa2 hl (by omega)];exact Lb _)]
 ·rw[hd.2,hd.1,Ij,Nc];simp only[List.length_append];omega
theorem Hst.part{w:World}{p:Nat}{rs iv t x st blk:List Int}{u:Nat}(hl:blk.length=64)(hu:t.length%64=u)(hx:u+x.length<64)
  (hst:st=stN rs iv t (t.length/64)) (hb:blk.take u=t.drop (64*(t.length/64))) (h:Hs w p st (blkC blk x u) (t++x).length):Hst w p rs iv (t++x):=by
 have hd:=Qi6 (t:=t) (x:=x) (by omega)
 have hk:=Qce (x:=x) hl (by omega) hu hb
 refine⟨_,_,h,?_,?_⟩
 ·rw[hd.1,Ok _ _ _ _ _ (by omega),<-hst]
 ·rw[hd.2,hd.1,hu];exact hk
theorem Qau(w:World)(p:Nat)(rs iv t:List Int)(s:BA)(hrl:rs.length=64)(hr:w.rangeAt 2 0 (cW rs))(hh:Hst w p rs iv t)(hlen:t.length+s.size<4611686018427387904) :
  Calls prog 215 #[Zv p,.string s] w fun e w'=>e= .returned (.tuple #[])∧Hst w' p rs iv (t++tB s)∧w.grownBy w' (some p):=by
 have hne1:2≠p:=by obtain⟨st,blk,h1,h2,h3⟩:=hh;exact h1.ne_rounds hrl hr
 have HI:Hid (Hst w p rs iv t):=hh;clear hh
 go_enter func215,ntmps215;go_wp2
 go_loopg [1] s.size (fun g v wr=> ∃(r:BA) (t':List Int),g=r.size∧v= .string r∧Hst wr p rs iv t'∧Hid (t'++tB r=t++tB s)∧w.grownBy wr (some p))
 case atStart=>go_light;exact⟨s,t,rfl,rfl,HI.out,rfl,World.grownBy.refl _ _⟩
 case round=>
  obtain⟨r,t',rfl,rfl,hh,HT,hg⟩:=hrel;have hlen2:t'.length+r.size=t.length+s.size:=by
   have:=LZ List.length HT.out
   simpa [Yc] using this
  by_cases hr0:0<r.size
  ·obtain⟨st,blk,h1,h2,h3⟩:=hh;obtain⟨n,hn⟩:∃n,t'.length=n:=⟨_,rfl⟩;obtain⟨u,hu⟩:∃u,n%64=u:=⟨_,rfl⟩;obtain⟨m,hm⟩:∃m,u+m=64:=⟨64-u,by omega⟩
   obtain⟨c,hc⟩:∃c,Nat.min r.size m=c:=⟨_,rfl⟩;obtain⟨q,hq⟩:∃q,8+u=q:=⟨_,rfl⟩;have hcr:c<=r.size:=by rw[<-hc];exact I4 _ _
   have hcm:c<=m:=by rw[<-hc];exact Wo _ _
   have hc0:0<c:=by rw[<-hc];exact Nat.lt_min.2 ⟨hr0,by omega⟩
   have hr0':(0:Int)<(r.size:Int):=by omega
   rw[hn] at h1;have c72:=h1.len;have hth:wr.there p q c:=fun j hj=>by
    have:=h1.there (q+j) (by omega)
    rwa [Lp] at this
   have hu64:Hid (n%64=u):=hu;have hsl:=fun w'=>QbV p 8 u m hm (by omega) w'
   rw[hq] at hsl;have hxl:((tB r).take c).length=c:=by rw[Lv,Yc];omega
   have hux:u+((tB r).take c).length<=64:=by omega
   have HK:Hid (∀w':World,w'.cell? ⟨p,72,none⟩=some (.int .u64 n)->(w'.setCells p q (cB ((tB r).take c))).cell? ⟨p,72,none⟩=some (.int .u64 n)):=fun w' h=>by
    rw[World.cell?_setCells_out p _ q w' ⟨p,72,none⟩ (fun _ _=>by right;show q+(cB ((tB r).take c)).length<=72;rw[Qu,hxl];omega)]
    exact h
   have HW:Hid (Hs (wr.drew.setCells p q (cB ((tB r).take c))) p st (blkC blk ((tB r).take c) u) n):=by
    have:=h1.drew.copied u ((tB r).take c) hux
    rwa [hq] at this
   have HG:Hid (w.grownBy (wr.drew.setCells p q (cB ((tB r).take c))) (some p)):=JA (Qbq hg) _ _;have Hnum:Hid (t'.length=n∧n%64=u∧u+m=64∧Nat.min r.size m=c∧((tB r).take c).length=c):=⟨hn,hu,hm,hc,hxl⟩;have HL:Hid (blk.length=64):=h1.blkl;have Hst2:Hid (st=stN rs iv t' (t'.length/64)∧blk.take (t'.length%64)=t'.drop (64*(t'.length/64))):=⟨h2,h3⟩;have hm0:(0:Int)<=(c:Int):=Lf _;have hcr':(c:Int)<=(r.size:Int):=by omega
   clear h1 h2 h3 hn hu hg hq hxl hux
   go_upto_region 1 with (fail)
   go_cut [4] from 5 to 42 (fun q4 wc=>q4= .int .i64 c∧Hs wc p st (blkC blk ((tB r).take c) u) n∧w.grownBy wc (some p))
   case first=>
    go_region_held3 (fun w'=>w'.cell? ⟨p,72,none⟩=some (.int .u64 n)) (first|assumption|(rw[Ns];assumption)|(exact HK.out _ (by assumption))|(rw[Ns];exact HK.out _ (by assumption))|(refine HK.out _ ?_;rw[Ns];assumption)) (first|(go_at_call 236;refine(J6 n u hu64 _ p ?_).mono ?_;(first|assumption|(rw[Ns];assumption));rintro e w' ⟨rfl,rfl⟩)|(refine Qb7 rfl _ _ 83 9 rfl 5 underlying83 QnQ p q m m c rfl r rfl hc ?_ ?_;(first|assumption|(rw[World.there_drew];assumption))))
    go_wp2
    go_meet
    case rel=>go_light;exact⟨rfl,HW.out,HG.out⟩
   case rest=>
    obtain⟨rfl,hs2,hg2⟩:=hcut;obtain⟨n',hn'⟩:∃n':Nat,n+c=n':=⟨_,rfl⟩;obtain⟨u',hu'⟩:∃u':Nat,n'%64=u':=⟨_,rfl⟩;have hcB:n+c<4611686018427387904:=by have:=Hnum.out.1;omega
    have en:(n:Int)+(c:Int)=(n':Int):=by omega
    have c72':=hs2.len;have f72:wc.frozen? ⟨p,72,none⟩=false:=by have:=(hs2.there 72 (by omega)).2;rwa [Lp] at this
    have hs3:=hs2.setLen n';have hg3:w.grownBy (wc.setCell ⟨p,72,none⟩ (.int .u64 n')) (some p):=Lib.grownBy_setB hg2 _ _;have b0:(0:Int)<=(n:Int):=Lf _;have b1:(n:Int)<4611686018427387904:=by omega
    have b2:(c:Int)<4611686018427387904:=by omega
    have Hn':Hid (n+c=n'):=hn';have Hu':Hid (n'%64=u'):=hu';clear hn' hu' hs2 hg2 hcB
    go_upto_region 4 with (fail)
    generalize wc.setCell ⟨p,72,none⟩ (.int .u64 n')=W3 at *;clear c72' f72;generalize hB:blkC blk ((tB r).take c) u=blk' at *;have HB:Hid (blkC blk ((tB r).take c) u=blk'):=hB;clear hB HW HG HK hsl hth c72;have hxs:(r.extract c r.size).size=r.size-c:=by simp
    by_cases h0:u'=0
    ·subst h0;obtain⟨s0,s1,s2,s3,s4,s5,s6,s7,rfl⟩:=Qbz hs3.stl;have c0:W3.cell? ⟨p,0,none⟩=some (.int .u32 s0):=Qd hs3.st (i:=0) (by simp)
     have c1:W3.cell? ⟨p,1,none⟩=some (.int .u32 s1):=Qd hs3.st (i:=1) (by simp)
     have c2:W3.cell? ⟨p,2,none⟩=some (.int .u32 s2):=Qd hs3.st (i:=2) (by simp)
     have c3:W3.cell? ⟨p,3,none⟩=some (.int .u32 s3):=Qd hs3.st (i:=3) (by simp)
     have c4:W3.cell? ⟨p,4,none⟩=some (.int .u32 s4):=Qd hs3.st (i:=4) (by simp)
     have c5:W3.cell? ⟨p,5,none⟩=some (.int .u32 s5):=Qd hs3.st (i:=5) (by simp)
     have c6:W3.cell? ⟨p,6,none⟩=some (.int .u32 s6):=Qd hs3.st (i:=6) (by simp)
     have c7:W3.cell? ⟨p,7,none⟩=some (.int .u32 s7):=Qd hs3.st (i:=7) (by simp)
     have hbl:=hs3.blkl;have hbr:=hs3.blk;have hi:(prog.info? 304).map (·.size)=some (cB blk').length:=by rw[Qu,hbl];exact Qas
     have hu35:=underlying304;have hl':(cB blk').length=64:=by rw[Qu,hbl]
     have hr3:W3.rangeAt 2 0 (cW rs):=QeP hg3 hne1 hr;have hr3d:W3.drew.rangeAt 2 0 (cW rs):=by rw[World.rangeAt_drew];exact hr3
     have hfo:=fun w'=>Og [s0,s1,s2,s3,s4,s5,s6,s7] rfl blk' hbl w' rs hrl
     generalize hF:YJ rs [s0,s1,s2,s3,s4,s5,s6,s7] blk'=F at hfo;have hFl:F.length=8:=by rw[<-hF];rfl
     have hszF:(cW F).toArray.size=8:=by simp[Ql,hFl]
     have hiF:(prog.info? 85).map (·.size)=some (cW F).toArray.size:=by rw[hszF];exact Uf
     have HF:Hid (YJ rs [s0,s1,s2,s3,s4,s5,s6,s7] blk'=F):=hF;clear hF;have c72':=hs3.len;have hplt:=hs3.lt;have ht8:W3.there p 0 8:=fun j hj=>hs3.there j (by omega)
     have hst34:∀w':World,w'.there p 0 8->(storeCells ⟨p,0,none⟩ (cW F)).run prog w'= .ok () (w'.setCells p 0 (cW F)):=fun w' h=>by
      have hl8:(cW F).length=8:=by rw[Ql,hFl]
      have:=run_storeCells_cells (P:=prog) p 0 (cW F) 0 w' (by rw[hl8];intro j hj;simpa using (h j hj).1) (by rw[hl8];intro j hj;simpa using (h j hj).2) (Ua F)
      simpa using this
     have HS3:Hid (Hs W3 p [s0,s1,s2,s3,s4,s5,s6,s7] blk' n'):=hs3;clear hs3;have HK:Hid (∀w':World,Below W3.drew.heap.size W3.drew w'->w'.rangeAt p 8 (cB blk')∧w'.there p 0 8):=fun w' h=>⟨Qk h hplt (by rw[World.rangeAt_drew];exact hbr),QS h hplt (by rw[World.there_drew];exact ht8)⟩
     have hst3:W3.drew.rangeAt p 0 (cW [s0,s1,s2,s3,s4,s5,s6,s7]):=by rw[World.rangeAt_drew];exact HS3.out.st
     have hi34:(prog.info? 85).map (·.size)=some (cW [s0,s1,s2,s3,s4,s5,s6,s7]).length:=Uf;have hS0:W3.drew.rangeAt p 8 (cB blk')∧W3.drew.there p 0 8:=⟨by rw[World.rangeAt_drew];exact hbr,by rw[World.there_drew];exact ht8⟩
     have HX:Hid (∀w',Below W3.drew.heap.size W3.drew w'->Hs (w'.setCells p 0 (cW F)) p F blk' n'∧w.grownBy (w'.setCells p 0 (cW F)) (some p)):=fun w' hb=>
      ⟨(HS3.out.drew.later hb hplt).setState F hFl,JA (Qep (Qbq hg3) hb) _ _⟩
     clear c0 c1 c2 c3 c4 c5 c6 c7 hg3 hst34
     go_wp2_with (go_at_call 236;refine(J6 n' 0 Hu' _ p c72').mono ?_;rintro e w' ⟨rfl,rfl⟩)
     refine wp_region_noPanic ?_
     refine wp_region_held_drew (S:=fun w'=>w'.rangeAt p 8 (cB blk')∧w'.there p 0 8) (by kernel_rfl) hS0 (fun hHeld=> ?_)
     refine wpAnyH_take (i:=0) (oi := { dst:=some 31,op:=Op.move (Operand.tmp 0),type:=289,pos := "sha.go:45",after:=#[],guard:=none }) (v:=Zv p) rfl (by kernel_rfl) (by kernel_rfl) (by kernel_rfl) (fun _ _ _ h=>h) (Or.inl ⟨by rfl,fun w hSw=> ?_⟩) (by assumption) ?_
     ·go_simp
     simp only[Act.put,List.setIfInBounds_toArray,List.set_cons_zero,List.set_cons_succ];refine wpAnyH_take (i:=1) (oi := { dst:=some 32,op:=Op.move (Operand.tmp 0),type:=289,pos := "sha.go:45",after:=#[],guard:=none }) (v:=Zv p) rfl (by kernel_rfl) (by kernel_rfl) (by kernel_rfl) (fun _ _ _ h=>h) (Or.inl ⟨by rfl,fun w hSw=> ?_⟩) (by assumption) ?_
     ·go_simp
     simp only[Act.put,List.setIfInBounds_toArray,List.set_cons_zero,List.set_cons_succ];refine wpAnyH_take (i:=2) (oi := { dst:=some 33,op:=Op.nilCheck (Operand.tmp 32),type:=0,pos := "sha.go:45",after:=#[{ on:=1,ground:=Ground.data }],guard:=none }) (v:=Zv p) rfl (by kernel_rfl) (by kernel_rfl) (by kernel_rfl) (fun _ _ _ h=>h) (Or.inl ⟨by rfl,fun w hSw=> ?_⟩) (by assumption) ?_
     ·go_simp
     simp only[Act.put,List.setIfInBounds_toArray,List.set_cons_zero,List.set_cons_succ];refine wpAnyH_take (i:=3) (oi := { dst:=some 34,op:=Op.fieldAddr 306 (Operand.tmp 33) 0,type:=0,pos := "sha.go:45",after:=#[{ on:=2,ground:=Ground.data }],guard:=none }) (v:=Zv p) rfl (by kernel_rfl) (by kernel_rfl) (by kernel_rfl) (fun _ _ _ h=>h) (Or.inl ⟨by rfl,fun w hSw=> ?_⟩) (by assumption) ?_
     ·go_simp
     simp only[Act.put,List.setIfInBounds_toArray,List.set_cons_zero,List.set_cons_succ];refine wpAnyH_take (i:=5) (oi := { dst:=some 36,op:=Op.move (Operand.tmp 0),type:=289,pos := "sha.go:45",after:=#[],guard:=none }) (v:=Zv p) rfl (by kernel_rfl) (by kernel_rfl) (by kernel_rfl) (fun _ _ _ h=>h) (Or.inl ⟨by rfl,fun w hSw=> ?_⟩) (by assumption) ?_
     ·go_simp
     simp only[Act.put,List.setIfInBounds_toArray,List.set_cons_zero,List.set_cons_succ];refine wpAnyH_take (i:=6) (oi := { dst:=some 37,op:=Op.nilCheck (Operand.tmp 36),type:=0,pos := "sha.go:45",after:=#[{ on:=5,ground:=Ground.data }],guard:=none }) (v:=Zv p) rfl (by kernel_rfl) (by kernel_rfl) (by kernel_rfl) (fun _ _ _ h=>h) (Or.inl ⟨by rfl,fun w hSw=> ?_⟩) (by assumption) ?_
     ·go_simp
     simp only[Act.put,List.setIfInBounds_toArray,List.set_cons_zero,List.set_cons_succ];refine wpAnyH_take (i:=7) (oi := { dst:=some 38,op:=Op.fieldAddr 306 (Operand.tmp 37) 1,type:=0,pos := "sha.go:45",after:=#[{ on:=6,ground:=Ground.data }],guard:=none }) (v := .pointer (some ⟨p,8,none⟩)) rfl (by kernel_rfl) (by kernel_rfl) (by kernel_rfl) (fun _ _ _ h=>h) (Or.inl ⟨by rfl,fun w hSw=> ?_⟩) (by assumption) ?_
     ·go_simp
     simp only[Act.put,List.setIfInBounds_toArray,List.set_cons_zero,List.set_cons_succ];refine wpAnyH_take (i:=8) (oi := { dst:=some 39,op:=Op.load 304 (Operand.tmp 38),type:=304,pos := "sha.go:45",after:=#[{ on:=7,ground:=Ground.data }],guard:=none }) (v := .agg (cB blk').toArray) rfl (by kernel_rfl) (by kernel_rfl) (by kernel_rfl) (fun _ _ _ h=>h) (yieldsIf_load_mid (by rfl) 304 _ rfl p 8 rfl (cB blk') _ (fun w hw=>hw.1) underlying304 rfl hi) (by assumption) ?_
     simp only[Act.put,List.setIfInBounds_toArray,List.set_cons_zero,List.set_cons_succ];refine wpAnyH_ready (rs:=[4]) (by kernel_rfl) (by simp) ?_
     refine AllReadyH.cons (o := { dst:=some 35,op:=Op.load 85 (Operand.tmp 34),type:=85,pos := "sha.go:45",after:=#[{ on:=3,ground:=Ground.data }],guard:=none }) rfl (fun K hK=> ?_) AllReadyH.nil
     rw[Lo (by rfl)]
     refine wp_load_mid 85 _ rfl p 0 rfl (cW [s0,s1,s2,s3,s4,s5,s6,s7]) _ hst3 underlying85 rfl hi34 ?_
     refine hK.out _ _ hHeld (fun hHeld=> ?_)
     clear hK K;simp only[Act.put,List.setIfInBounds_toArray,List.set_cons_zero,List.set_cons_succ];refine wpAnyH_ready (rs:=[9]) (by kernel_rfl) (by simp) ?_
     refine AllReadyH.cons (o := { dst:=some 40,op:=Op.call { callee:=Callee.value (Operand.func 237),args:=#[Operand.tmp 35,Operand.tmp 39],argTypes:=#[85,304] },type:=85,pos := "sha.go:45",after:=#[{ on:=4,ground:=Ground.data },{ on:=8,ground:=Ground.data }],guard:=none }) rfl (fun K hK=> ?_) AllReadyH.nil
     go_simp
     refine(hfo _ hr3d).mono ?_
     rintro e w4 ⟨rfl,hbw⟩;have hth4:=(HK.out _ hbw).2;refine hK.out _ _ (HK.out _ hbw) (fun hHeld=> ?_)
     clear hK K;refine wpAnyH_take (i:=10) (oi := { dst:=some 41,op:=Op.nilCheck (Operand.tmp 31),type:=0,pos := "sha.go:45",after:=#[{ on:=0,ground:=Ground.data },{ on:=0,ground:=Ground.phase },{ on:=1,ground:=Ground.phase },{ on:=2,ground:=Ground.phase },{ on:=3,ground:=Ground.phase },{ on:=4,ground:=Ground.phase },{ on:=5,ground:=Ground.phase },{ on:=6,ground:=Ground.phase },{ on:=7,ground:=Ground.phase },{ on:=8,ground:=Ground.phase },{ on:=9,ground:=Ground.phase }],guard:=none }) (v:=Zv p) rfl (by kernel_rfl) (by kernel_rfl) (by kernel_rfl) (fun _ _ _ h=>h) (Or.inl ⟨by rfl,fun w hSw=> ?_⟩) (by assumption) ?_
     ·go_simp
     simp only[Act.put,List.setIfInBounds_toArray,List.set_cons_zero,List.set_cons_succ];refine wpAnyH_take (i:=11) (oi := { dst:=some 42,op:=Op.fieldAddr 306 (Operand.tmp 41) 0,type:=0,pos := "sha.go:45",after:=#[{ on:=10,ground:=Ground.data },{ on:=0,ground:=Ground.phase },{ on:=1,ground:=Ground.phase },{ on:=2,ground:=Ground.phase },{ on:=3,ground:=Ground.phase },{ on:=4,ground:=Ground.phase },{ on:=5,ground:=Ground.phase },{ on:=6,ground:=Ground.phase },{ on:=7,ground:=Ground.phase },{ on:=8,ground:=Ground.phase },{ on:=9,ground:=Ground.phase }],guard:=none }) (v:=Zv p) rfl (by kernel_rfl) (by kernel_rfl) (by kernel_rfl) (fun _ _ _ h=>h) (Or.inl ⟨by rfl,fun w hSw=> ?_⟩) (by assumption) ?_
     ·go_simp
     simp only[Act.put,List.setIfInBounds_toArray,List.set_cons_zero,List.set_cons_succ];refine wpAnyH_ready (rs:=[12]) (by kernel_rfl) (by simp) ?_
     refine AllReadyH.cons (o := { dst:=none,op:=Op.store 85 (Operand.tmp 42) (Operand.tmp 40),type:=0,pos := "sha.go:45",after:=#[{ on:=11,ground:=Ground.data },{ on:=9,ground:=Ground.data },{ on:=9,ground:=Ground.chain },{ on:=0,ground:=Ground.phase },{ on:=1,ground:=Ground.phase },{ on:=2,ground:=Ground.phase },{ on:=3,ground:=Ground.phase },{ on:=4,ground:=Ground.phase },{ on:=5,ground:=Ground.phase },{ on:=6,ground:=Ground.phase },{ on:=7,ground:=Ground.phase },{ on:=8,ground:=Ground.phase },{ on:=9,ground:=Ground.phase }],guard:=none }) rfl (fun K hK=> ?_) AllReadyH.nil
     rw[Lo (by rfl)]
     refine wp_store_mid 85 _ _ rfl p 0 (cW F).toArray rfl rfl (by rw[hszF];exact hth4) hiF (all_oneCell_toArray (Ua F)) ?_
     refine hK.out _ _ ⟨World.rangeAt_setCells_apart hHeld.1 _ _ _ (by right;right;rw[List.toList_toArray,Ql,hFl];omega),World.there_setCells hth4 _ _ _⟩ (fun hHeld=> ?_)
     clear hK K;simp only[Act.put];refine wpAnyH_done (by kernel_rfl) ?_ _
     refine NoPanic.normal ?_
     go_wp2
     go_roundg (r.extract c r.size).size
     case rel=>
      go_light;obtain⟨hn,hu,hm,hc,hxl⟩:=Hnum.out;obtain⟨hH,hG⟩:=HX.out _ hbw;have hn':=Hn'.out;have hu':=Hu'.out;obtain⟨hst,hbk⟩:=Hst2.out;have hf:=HF.out;have hb':=HB.out;rw[hn,hu,<-hn] at hbk;refine⟨_,t'++(tB r).take c,rfl,rfl,Hst.full HL.out (by omega) (by omega) hst hbk ?_,?_,hG⟩
      ·rw[Lh,hxl,hn,hn',hb',hf];exact hH
      ·rw[QbX,LP,Nu];exact HT
     case measure=>go_light;rw[hxs];omega
    ·have h0':((u':Int) == 0)=false:=by rw[beq_eq_false_iff_ne];omega
     have c72':=hs3.len;have HS3:Hid (Hs W3 p st blk' n'):=hs3;have HG3:Hid (w.grownBy W3 (some p)):=hg3;clear hs3 hg3
     go_wp2_with (go_at_call 236;refine(J6 n' u' Hu' _ p c72').mono ?_;rintro e w' ⟨rfl,rfl⟩)
     go_roundg (r.extract c r.size).size
     case rel=>
      go_light;obtain⟨hn,hu,hm,hc,hxl⟩:=Hnum.out;have hn':=Hn'.out;have hu':=Hu'.out;obtain⟨hst,hbk⟩:=Hst2.out;have hb':=HB.out;rw[hn,hu,<-hn] at hbk;refine⟨_,t'++(tB r).take c,rfl,rfl,Hst.part HL.out (by omega) (by omega) hst hbk ?_,?_,HG3.out⟩
      ·rw[Lh,hxl,hn,hn',hb'];exact HS3.out
      ·rw[QbX,LP,Nu];exact HT
     case measure=>go_light;rw[hxs];omega
  ·have hr1:r.size=0:=by omega
   have hr0':¬((0:Int)<(r.size:Int)):=by omega
   have HR:Hid (Hst wr p rs iv (t++tB s)):=by
    have:=HT.out;rw[Qo6 hr1,L7] at this;rw[<-this];exact hh
   clear hh;go_wp2
   go_end0
   exact⟨rfl,HR.out,hg⟩
def IV:List Int:=[1779033703,3144134277,1013904242,2773480762,1359893119,2600822924,528734635,1541459225]
theorem Qdk(w:World) :
  Calls prog 214 #[] w fun e w'=>e= .returned (Zv w.heap.size)∧w'=w.alloc (.cells ((cW IV++cB (List.replicate 64 0))++[Value.int .u64 0]).toArray 306):=by
 have hz:∀w':World,(zeroValue 306).run prog w'= .ok (.agg #[.int .u32 0,.int .u32 0,.int .u32 0,.int .u32 0,.int .u32 0,.int .u32 0,.int .u32 0,.int .u32 0,.int .u8 0,.int .u8 0,.int .u8 0,.int .u8 0,.int .u8 0,.int .u8 0,.int .u8 0,.int .u8 0,.int .u8 0,.int .u8 0,.int .u8 0,.int .u8 0,.int .u8 0,.int .u8 0,.int .u8 0,.int .u8 0,.int .u8 0,.int .u8 0,.int .u8 0,.int .u8 0,.int .u8 0,.int .u8 0,.int .u8 0,.int .u8 0,.int .u8 0,.int .u8 0,.int .u8 0,.int .u8 0,.int .u8 0,.int .u8 0,.int .u8 0,.int .u8 0,.int .u8 0,.int .u8 0,.int .u8 0,.int .u8 0,.int .u8 0,.int .u8 0,.int .u8 0,.int .u8 0,.int .u8 0,.int .u8 0,.int .u8 0,.int .u8 0,.int .u8 0,.int .u8 0,.int .u8 0,.int .u8 0,.int .u8 0,.int .u8 0,.int .u8 0,.int .u8 0,.int .u8 0,.int .u8 0,.int .u8 0,.int .u8 0,.int .u8 0,.int .u8 0,.int .u8 0,.int .u8 0,.int .u8 0,.int .u8 0,.int .u8 0,.int .u8 0,.int .u64 0]) w':=fun w'=>by kernel_rfl
 go_enter func214,ntmps214;go_wp2
 go_ret
 exact⟨rfl,rfl⟩
theorem QpB(H:List Int)(hl:H.length=8)(k:Nat)(hk:k<8)(w:World):(Instr.index 85 (.agg (cW H).toArray) (.int .i64 k)).run prog w= .ok (.int .u32 (H.getD k 0)) w:=by
 obtain⟨s0,s1,s2,s3,s4,s5,s6,s7,rfl⟩:=Qbz hl;obtain rfl|rfl|rfl|rfl|rfl|rfl|rfl|rfl:k=0∨k=1∨k=2∨k=3∨k=4∨k=5∨k=6∨k=7:=by omega
 all_goals kernel_rfl
def w4(x:Int):List Int:=[IntKind.u8.wrap (x/16777216),IntKind.u8.wrap (x/65536),IntKind.u8.wrap (x/256),IntKind.u8.wrap x]
def UJ(H:List Int):Nat->List Int
 | 0=>[]
 | k+1=>UJ H k++w4 (H.getD k 0)
def UL(l:List Int):List Int:=l++List.replicate (32-l.length) 0
theorem QbI(H:List Int)(k:Nat):(UJ H k).length=4*k:=by
 induction k with
 | zero=>rfl
 | succ k ih=>simp only[UJ,List.length_append,ih,w4,List.length_cons,List.length_nil];omega
theorem Qh4{l:List Int}(h:l.length<=32):(UL l).length=32:=by simp[UL];omega
theorem QfS{l:List Int}(h:l.length=32):UL l=l:=by simp[UL,h]
theorem Qh5{l:List Int}(h:l.length<32)(v:Int):(UL l).set l.length v=UL (l++[v]):=by
 unfold UL;rw[Nh _ _ (Lb _)];obtain⟨n,hn⟩:∃n,32-l.length=n+1:=⟨32-l.length-1,by omega⟩
 have hn':32-(l++[v]).length=n:=by simp;omega
 rw[hn,hn',I5];simp
structure Su(w wr:World)(l:List Int):Prop where
 below:Below w.heap.size w wr
 out:wr.rangeAt w.heap.size 0 (cB (UL l))
 outt:wr.there w.heap.size 0 32
theorem Su.step{w wr:World}{l:List Int}(h:Su w wr l){m:Nat}(hm:l.length=m)(hl:m<32)(v:Int):Su w (wr.setCell ⟨w.heap.size,m,none⟩ (.int .u8 v)) (l++[v]):=by
 subst hm;refine⟨h.below.setCell (Lb _) _,?_,QL h.outt _ _⟩
 have:=YC h.out l.length (.int .u8 v)
 rwa [Lp,Qfm,Qh5 hl] at this
def QT(l:List Int):BA:=l.foldl (fun r n=>r.push (UInt8.ofNat n.toNat)) ByteArray.empty
theorem Qbc(w:World)(b:Nat)(l:List Int)(n:Nat)(hl:l.length=n)(h:w.rangeAt b 0 (cB l)):(convert 83 9 (.slice (Zp b) n n)).run prog w= .ok (.string (QT l)) w:=by
 subst hl;rw[run_convert_bytes_string w 83 9 5 _ _ _ underlying83 underlying5 underlying9];refine run_bytesToString w ⟨b,0,none⟩ l.length l.length l ?_
 have:=run_loadCells_list (P:=prog) w ⟨b,0,none⟩ (cB l) (fun j v hv=>by rw[Addr.add_mid];exact h j v hv)
 rwa [Qu] at this
theorem Qan{w:World}{b i j:Nat}{v u:Value}(h:w.cell? ⟨b,i,none⟩=some u)(hne:i≠j):(w.setCell ⟨b,j,none⟩ v).cell? ⟨b,i,none⟩=some u:=by
 rw[Lz _ _ _ _ (fun e=>hne (by have:=LZ Addr.off e;simpa using this.symm))];exact h
theorem Qnf(w:World)(p:Nat)(st blk:List Int)(n:Nat)(hh:Hs w p st blk n)(rs:List Int)(hrl:rs.length=64)(hr:w.rangeAt 2 0 (cW rs)) :
  Calls prog 216 #[Zv p] w fun e w'=>e= .returned (.string (QT (UJ (QX rs st blk n) 8)))∧Below w.heap.size w w':=by
 obtain⟨H,hH⟩:∃H,H=QX rs st blk n:=⟨_,rfl⟩;have hHl:H.length=8:=by rw[hH];exact Qba _ _ _ _
 have hcl:=fun(w':World) (h:Hs w' p st blk n) (h2:w'.rangeAt 2 0 (cW rs))=>closed_any w' p st blk n h rs hrl h2
 rw[<-hH] at hcl;have HE:Hid (H=QX rs st blk n):=hH;clear hH;have hlt:p<w.heap.size:=hh.lt;have h1w:2<w.heap.size:=QH hr (by intro h;have:=LZ List.length h;simp[Ql,hrl] at this)
 have hA:∀o,Hs (w.alloc o) p st blk n:=fun o=>hh.later ((Lc w.heap.size w).alloc (Lb _) o) hlt
 have hR:∀o,(w.alloc o).rangeAt 2 0 (cW rs):=fun o=>World.rangeAt_alloc hr o
 go_enter func216,ntmps216
 go_wp2_with (go_at_call 238;refine(hcl _ (hA _) (hR _)).mono ?_;rintro e w' ⟨rfl,hbw⟩)
 have hS:Su w w' []:=by
  have q:=Qm w (cB (List.replicate 32 0)).toArray 308 32 (by simp[Qu])
  have r:=Qq w (cB (List.replicate 32 0)) 308;exact⟨((Lc _ _).alloc (Lb _) _).trans (hbw.mono (by simp)),Qk hbw (by simp) r,QS hbw (by simp) q⟩
 clear hbw hcl hA hR
 go_loopg [8] 8 (fun g i wr=> ∃k:Nat,k<=8∧g=8-k∧i= .int .i64 k∧Su w wr (UJ H k))
 case atStart=>go_light;exact⟨0,Lm _,rfl,rfl,hS⟩
 case round=>
  clear hS;obtain⟨k,hk,rfl,rfl,hs⟩:=hrel
  by_cases hlt:k<8
  ·have hk0:(0:Int)<=(k:Int):=Lf _;have hk8:(k:Int)<8:=by omega
   have hidx:=fun w'=>QpB H hHl k hlt w'
   obtain⟨m,hm⟩:∃m:Nat,4*k=m:=⟨_,rfl⟩;obtain⟨m1,hm1⟩:∃m1:Nat,m+1=m1:=⟨_,rfl⟩;obtain⟨m2,hm2⟩:∃m2:Nat,m+2=m2:=⟨_,rfl⟩;obtain⟨m3,hm3⟩:∃m3:Nat,m+3=m3:=⟨_,rfl⟩;have e0:4*(k:Int)=(m:Int):=by omega
   have e1:(m:Int)+1=(m1:Int):=by omega
   have e2:(m:Int)+2=(m2:Int):=by omega
   have e3:(m:Int)+3=(m3:Int):=by omega
   have b0:(0:Int)<=(m:Int):=Lf _;have b1:(0:Int)<=(m1:Int):=Lf _;have b2:(0:Int)<=(m2:Int):=Lf _;have b3:(0:Int)<=(m3:Int):=Lf _;have d0:(m:Int)<32:=by omega
   have d1:(m1:Int)<32:=by omega
   have d2:(m2:Int)<32:=by omega
   have d3:(m3:Int)<32:=by omega
   have hol:=QbI H k;have hpl:(UL (UJ H k)).length=32:=Qh4 (by omega)
   have c0:=Yg hs.out (i:=m) (by omega)
   have c1:=Yg hs.out (i:=m1) (by omega)
   have c2:=Yg hs.out (i:=m2) (by omega)
   have c3:=Yg hs.out (i:=m3) (by omega)
   have f0:wr.frozen? ⟨w.heap.size,m,none⟩=false:=by have:=(hs.outt m (by omega)).2;rwa [Lp] at this
   have f1:wr.frozen? ⟨w.heap.size,m1,none⟩=false:=by have:=(hs.outt m1 (by omega)).2;rwa [Lp] at this
   have f2:wr.frozen? ⟨w.heap.size,m2,none⟩=false:=by have:=(hs.outt m2 (by omega)).2;rwa [Lp] at this
   have f3:wr.frozen? ⟨w.heap.size,m3,none⟩=false:=by have:=(hs.outt m3 (by omega)).2;rwa [Lp] at this
   have c1':=fun v=>Qan (v:=v) c1 (show m1≠m by omega)
   have c2':=fun v v'=>Qan (v:=v') (Qan (v:=v) c2 (show m2≠m by omega)) (show m2≠m1 by omega)
   have c3':=fun v v' v''=>Qan (v:=v'') (Qan (v:=v') (Qan (v:=v) c3 (show m3≠m by omega)) (show m3≠m1 by omega)) (show m3≠m2 by omega)
   have HF:Hid (∀x0 x1 x2 x3,Su w ((((wr.setCell ⟨w.heap.size,m,none⟩ (.int .u8 x0)).setCell ⟨w.heap.size,m1,none⟩ (.int .u8 x1)).setCell ⟨w.heap.size,m2,none⟩ (.int .u8 x2)).setCell ⟨w.heap.size,m3,none⟩ (.int .u8 x3)) (UJ H k++[x0,x1,x2,x3])):=fun x0 x1 x2 x3=>by
    have:=(((hs.step (m:=m) (by omega) (by omega) x0).step (m:=m1) (by simp;omega) (by omega) x1).step (m:=m2) (by simp;omega) (by omega) x2).step (m:=m3) (by simp;omega) (by omega) x3
    simpa using this
   clear hs hm hm1 hm2 hm3 c1 c2 c3 hol hpl;generalize (UL (UJ H k)).getD m 0=z0 at *;generalize (UL (UJ H k)).getD m1 0=z1 at *;generalize (UL (UJ H k)).getD m2 0=z2 at *;generalize (UL (UJ H k)).getD m3 0=z3 at *;generalize hx:H.getD k 0=x at *;have HX:Hid (H.getD k 0=x):=hx;clear hx;go_wp2
   go_roundg (8-(k+1))
   case rel=>
    go_light;refine⟨k+1,by omega,rfl,by go_num,?_⟩
    rw[UJ,HX.out];exact HF.out _ _ _ _
   case measure=>go_light;omega
  ·obtain rfl:k=8:=by omega
   have hol:=QbI H 8;have hrg:=hs.out;rw[QfS hol] at hrg;have hcv:=Qbc wr w.heap.size (UJ H 8) 32 hol hrg;have HB:Hid (Below w.heap.size w wr):=hs.below;have HO:Hid (UJ H 8=UJ (QX rs st blk n) 8):=by rw[HE.out];exact rfl
   clear hs hrg hol;generalize UJ H 8=l at *;go_wp2
   go_ret
   exact⟨by rw[<-HO.out];rfl,HB.out⟩
end Go.Proofs.YtoblgjledefdbabGreatDoor
