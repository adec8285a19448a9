/- Own work. -/
import Derived.Deep.AppendLies
import Derived.Test.YtdocjikpcbmcgaaGreatDoorQj37
import Derived.Test.YtdocjikpcbmcgaaGreatDoorQj38
set_option maxRecDepth 100000
set_option maxHeartbeats 2000000
namespace Go.Proofs.YtdocjikpcbmcgaaGreatDoor
open Go.RowKit
attribute [local go_sem ↓] Go.wp_at_zero Go.wp_at_succ
section
open Cv (zl)
theorem QmS(w:World)(b:Nat)(o:Obj):ChT (fun x=>x=b) w (ChangeMaps.setBlock w b o) :=
 ⟨rfl,rfl,rfl,by simp[ChangeMaps.setBlock],fun q hq=>by simp[ChangeMaps.setBlock,show ¬b=q from fun e=>hq e.symm]⟩
theorem QiZ{w:World}{b:Nat}{f g:Int->Nat->Option Nat}(h:Mi w b f)(e : ∀x y,Fitb x y->f x y=g x y):Mi w b g:=by
 obtain⟨es,c,h1,h2,h3,h4⟩:=h;exact⟨es,c,h1,h2,h3,fun x y s hf=>by rw[<-e x y hf];exact h4 x y s hf⟩
theorem QaL(w:World)(kd k:Int)(old n:Nat)(vs:Value)(da:OA)(dn dc:Nat)(la:OA)(ln lc:Nat)(ca:OA)(cn cc:Nat)(Bs:List (Nat×Nat))(hBf : ∀b∈Bs,b.1<=40∧b.2<2^40)(hBl:Bs.length<=100000)(hBn:Bs.Nodup)
  (HBo : ∀W,Zb w W->Calls Tryz.prog 60 #[vP kd k old n vs (.slice da dn dc)] W fun e w' => ∃v,e = .returned v∧Cv.Qz w' W.heap.size v (zl Bs)∧Zb W w')
  (T:Pq) (HA : ∀W mb,Zb w W->Mi W mb (fun h i=>if 0<=h then ixM Bs h.toNat i else none)->Zr 35 #[wkV k (lsV k la ln lc (some mb)) 107 (prV' da dn dc ca cn cc (some mb)),.int .u64 (n:Int)] W (pv T)) :
  Zr 26 #[vP kd k old n vs (.slice da dn dc),.slice la ln lc,.slice ca cn cc] w (pv T):=by
 have HBo':=Qc HBo;have HA':=Qc HA;unfold vP at HBo' ⊢;obtain⟨F,hFe,h6,hb,hsz⟩:=Yu w (.int .i64 kd) (.int .i64 k) (.int .u64 (old:Int)) (.int .u64 (n:Int)) vs (.slice da dn dc);obtain⟨F1,hF1,hp3,hb1⟩:=Jp F;obtain⟨F2,hF2⟩:=Ze (F1.alloc (.map #[] 0));have hm2:Mi F2 F1.heap.size (fun _ _=>none):=by rw[<-hF2];exact Qmz F1
 have hb2:Zb F1 F2:=by rw[<-hF2];exact bal (Below.refl _ _) _
 have hs2:F1.heap.size=w.heap.size+1+1:=by rw[<-hF1,Lp,hsz]
 have hx6:=h6.next (Qa hb1 hb2);have hx3:=hp3.next hb2;obtain⟨c0,c1,c2,c3,c4,c5⟩:=hx6.cells;have hbF:=Qa hb (Qa hb1 hb2);rw[hsz] at hx3;rw[hs2] at hm2;have HQ:=Qc (And.intro hx6 (And.intro hx3 hm2));clear HBo HA h6 hp3 hm2 hb hb1 hb2 hx6 hx3;have hmm := @run_makeMap Tryz.prog
 go_enter Tryz.func26,Tryz.ntmps26
 go_upto_region 2 with (fail)
 try rw[hFe,hF1,hF2]
 try rw[hs2]
 clear hFe hF1 hF2 hmm
 go_upto_region 3 with (go_at_call 60;with_reducible refine(HBo'.out _ hbF).mono ?_;rintro e w3 ⟨v,rfl,h3,hb3⟩;obtain⟨a3,n3,cp3,rfl⟩:=Cv.Qh h3)
 obtain⟨a3',gB,n3',cp3',hv3,hrB,hrn⟩:=Uc h3 (fun x hx=>by
  obtain⟨b0,hb0,rfl⟩:=LE.1 hx;have:=hBf b0 hb0;exact⟨⟨by simp only;omega,by simp only;omega⟩,by simp only;omega⟩)
 injection hv3 with e1 e2 e3
 subst e1 e2 e3;have hnl:Bs.length=n3:=by have:=hrB.len;rwa [Cv.Qq] at this
 subst hnl;have hgB:0<Bs.length->w.heap.size+1+1<gB∧gB<w3.heap.size:=fun h0=>by
  obtain⟨g,hg1,hg2,hg3⟩:=QbY h3 (by rw[Cv.Qq];exact h0)
  have:=hrB.addr h0;rw[hg1] at this;injection this with this
  injection this with this _
  subst this;have:=HQ.out.2.2.lt;exact⟨by omega,hg3⟩
 have HQ3:Hid (Six w3 w.heap.size (.int .i64 kd) (.int .i64 k) (.int .u64 (old:Int)) (.int .u64 (n:Int)) vs (.slice da dn dc)∧P3 w3 (w.heap.size+1) none∧Zb w w3):=⟨HQ.out.1.next hb3,HQ.out.2.1.next hb3,Qa hbF hb3⟩;have HM0:Hid (Mi w3 (w.heap.size+1+1) (fun h i=>if 0<=h then ixM (Bs.take 0) h.toNat i else none)):=by
  refine QiZ (HQ.out.2.2.same (hb3.block _ HQ.out.2.2.lt)) fun x y _ => ?_
  split
  ·rw[IW];exact(JN.2 (by simp)).symm
  ·rfl
 have hz:(Bs.length:Int)<=100000:=by omega
 have HG:=Qc hgB;have HR:=Qc hrB;clear HQ h3 hb3 hbF c0 c1 c2 c3 c4 c5 hrn hgB hrB hs2 hsz HBo'
 go_loopg [14] Bs.length (fun g i wr => ∃j:Nat,g=Bs.length - j∧j<=Bs.length∧i = .int .i64 (j:Int)∧Hid (Mi wr (w.heap.size+1+1) (fun h i=>if 0<=h then ixM (Bs.take j) h.toNat i else none))∧Hid (Bx (w.heap.size+1+1) w3 wr))
 case atStart =>
  go_light;exact⟨0,rfl,Lf _,rfl,HM0,Bx.refl _ _⟩
 case round =>
  clear HM0;obtain⟨j,rfl,hj,rfl,HMi,HBx⟩:=hrel
  by_cases hlt:j<Bs.length
  ·have z0:(0:Int)<=(j:Int):=Le _;have z1:(j:Int)<(Bs.length:Int):=by omega
   have hrd:=HR.out;obtain rfl:=hrd.addr (by omega)
   obtain⟨b,hbb⟩:=Ze (Bs.getD j (0,0));have hbm:b∈Bs:=by rw[<-hbb,La,Lc hlt];exact LO _
   obtain⟨k0,k1⟩:=hrd.cell j hlt;have hzl:(zl Bs).getD j (0,0)=((b.1:Int),b.2):=by
    rw[<-hbb,La,La,zl,Nn,Lc hlt];rfl
   rw[hzl] at k0 k1;simp only at k0 k1;rw[Ll] at k0 k1;have hgB:=HG.out (by omega)
   have hblk:=HBx.out.block gB hgB.2 (by omega)
   replace k0:=(Lr (a:=⟨gB,j*2,none⟩) hblk).trans k0;replace k1:=(Lr (a:=⟨gB,j*2+1,none⟩) hblk).trans k1;obtain⟨f1,f2⟩:=hBf b hbm;have htk:Bs.take (j+1)=Bs.take j++[b]:=by rw[LQ hlt,<-hbb,La,Lc hlt];rfl
   have hnm:b ∉ Bs.take j:=fun hm=>by
    have h1:(Bs.take (j+1)).Nodup:=hBn.sublist (List.take_sublist _ _);rw[htk] at h1;exact(List.nodup_append.1 h1).2.2 b hm b (by simp) rfl
   have hlen:(Bs.take j).length=j:=by rw[Lv];omega
   obtain⟨bh,bk⟩:=b;simp only at k0 k1 f1 f2;obtain⟨W1,hW1⟩:=Ze (wr.alloc (.cells #[.int .i64 (bh:Int),.int .u64 (bk:Int)] 83));have hb1:Zb wr W1:=by rw[<-hW1];exact bal (Below.refl _ _) _
   have t1:W1.heap[wr.heap.size]? = some (.cells #[.int .i64 (bh:Int),.int .u64 (bk:Int)] 83 (0,0)):=by rw[<-hW1];exact heap_alloc_new wr _
   have d0:W1.cell? ⟨wr.heap.size,0,none⟩=some (.int .i64 (bh:Int)):=by rw[cell_of_row W1 wr.heap.size 0 _ _ (0,0) t1];rfl
   have d1:W1.cell? ⟨wr.heap.size,1,none⟩=some (.int .u64 (bk:Int)):=by rw[cell_of_row W1 wr.heap.size 1 _ _ (0,0) t1];rfl
   have hf:Fitb (bh:Int) bk:=⟨⟨by omega,by omega⟩,by omega⟩
   have hM1:Mi W1 (w.heap.size+1+1) _:=HMi.out.same (hb1.block _ HMi.out.lt);obtain⟨es,cl,hrun,hM2⟩:=hM1.write hf j;unfold kv ni at hrun;have hch:=QmS W1 (w.heap.size+1+1) (.map es cl);obtain⟨W2,hW2⟩:=Ze (ChangeMaps.setBlock W1 (w.heap.size+1+1) (.map es cl));rw[hW2] at hrun hM2 hch;have HN:Hid (Mi W2 (w.heap.size+1+1) (fun h i=>if 0<=h then ixM (Bs.take (j+1)) h.toNat i else none)∧Bx (w.heap.size+1+1) w3 W2):=by
    refine⟨QiZ hM2 fun x y _ => ?_,(HBx.out.next hb1).put hch⟩
    show(if x=(bh:Int)∧y=bk then some j else if 0<=x then ixM (Bs.take j) x.toNat y else none)=if 0<=x then ixM (Bs.take (j+1)) x.toNat y else none
    by_cases hx:0<=x
    ·rw[if_pos hx,if_pos hx,htk,QkB hnm,hlen]
     by_cases he:x=(bh:Int)∧y=bk
     ·obtain⟨rfl,rfl⟩:=he;rw[if_pos ⟨rfl,rfl⟩,if_pos (by rw[Iu])]
     ·rw[if_neg he,if_neg (fun e=>he ?_)]
      injection e with e1 e2
      exact⟨by omega,e2⟩
    ·rw[if_neg hx,if_neg hx,if_neg (fun e:x=(bh:Int)∧y=bk=>hx (by omega))]
   clear hrd hzl hbb hbm hblk hgB htk hnm hlen t1 hM1 hM2 hch hW2 hf f1 f2 HMi HBx
   go_upto_region 5 with (fail)
   try rw[hW1]
   clear hW1 k0 k1;go_wp2
   go_roundg (Bs.length - (j+1))
   case rel =>
    go_light;exact⟨j+1,rfl,by omega,by go_num,HN.out.1,HN.out.2⟩
   case measure=>go_light;omega
  ·obtain rfl:j=Bs.length:=by omega
   have hz1 : ¬(Bs.length:Int)<(Bs.length:Int):=by omega
   have hMf:=HMi.out;rw[LR] at hMf;have x6:Six wr w.heap.size (.int .i64 kd) (.int .i64 k) (.int .u64 (old:Int)) (.int .u64 (n:Int)) vs (.slice da dn dc):=(HBx.out.block _ HQ3.out.1.lt (by omega)).trans HQ3.out.1
   have x3:P3 wr (w.heap.size+1) none:=(HBx.out.block _ HQ3.out.2.1.lt (by omega)).trans HQ3.out.2.1
   have hbw:Zb w wr:=HQ3.out.2.2.trans (HBx.out.below (by omega) (Nat.le_of_lt HQ3.out.1.lt))
   obtain⟨c0,c1,c2,c3,c4,c5⟩:=x6.cells;have HAW:=Qc (HA'.out wr (w.heap.size+1+1) hbw hMf);have H3:=Qc x3;clear HMi HBx HQ3 x6 x3 hMf HA' HR HG hlt hj
   go_wp2_with (go_at_call 35;with_reducible refine HAW.out.mono ?_;rintro e w8 ⟨rfl,hb8⟩;have h3:=H3.out.next hb8;obtain⟨r0,r1,r2⟩:=h3.cells;have rf:=h3.fz;simp only[pA,pB',Option.isSome_none] at r0 r1 r2)
   have hp:=h3.put T;have hch:=Ud w8 (w.heap.size+1) T;obtain⟨d0,d1,d2⟩:=hp.cells;refine bodyPost_ret (v:=pv T) (by simp[results,Tryz.results26,go_sem,d0,d1,d2]) rfl ⟨rfl,?_⟩
   exact(Qa hbw hb8).trans (hch.below (by rintro b rfl;omega))
end
abbrev tri(T:Pq):Value := .tuple #[.string (pA T),.string (pB' T),.bool T.isSome]
section
variable (w:World) (k:Int) (la:OA) (ln lc:Nat) (ca:OA) (cn cc:Nat) (s:BA) (o:Nat) (c:BA)
  (HCm:Hid (∀W,Zb w W->Zr 23 #[.int .i64 k,.slice la ln lc] W (.agg #[.int .u64 (o:Int),.string c])))
include HCm
theorem Qmg(r:Int)(hr:r≠0)
  (HL:Hid (∀W,Zb w W->Zr 11 #[.int .i64 k,.agg #[.int .u64 (o:Int),.string c],.slice ca cn cc,.string s] W (.int .i64 r))) :
  Zr 10 #[.int .i64 k,.slice la ln lc,.slice ca cn cc,.string s] w (tri none):=by
 have hz:(r != 0)=true:=by simpa using hr
 have hz2 : ¬r=0:=hr;clear hr
 go_enter Tryz.func10,Tryz.ntmps10
 go_wp2_with (first
  | (go_at_call 23;with_reducible refine(HCm.out _ (Below.refl _ _)).mono ?_;rintro e w1 ⟨rfl,hb1⟩)
  | (go_at_call 11;with_reducible refine(HL.out _ hb1).mono ?_;rintro e w2 ⟨rfl,hb2⟩))
 exact bodyPost_ret (v:=tri none) (by simp[results,Tryz.results10,go_sem,pA,pB']) rfl ⟨rfl,Qa hb1 hb2⟩
theorem Qmh
  (HL:Hid (∀W,Zb w W->Zr 11 #[.int .i64 k,.agg #[.int .u64 (o:Int),.string c],.slice ca cn cc,.string s] W (.int .i64 0)))
  (HS:Hid (∀W,Zb w W->Zr 24 #[.slice ca cn cc,.slice la ln lc] W (.bool true))) :
  Zr 10 #[.int .i64 k,.slice la ln lc,.slice ca cn cc,.string s] w (tri none):=by
 go_enter Tryz.func10,Tryz.ntmps10
 go_wp2_with (first
  | (go_at_call 23;with_reducible refine(HCm.out _ (Below.refl _ _)).mono ?_;rintro e w1 ⟨rfl,hb1⟩)
  | (go_at_call 11;with_reducible refine(HL.out _ hb1).mono ?_;rintro e w2 ⟨rfl,hb2⟩)
  | (go_at_call 24;with_reducible refine(HS.out _ (Qa hb1 hb2)).mono ?_;rintro e w3 ⟨rfl,hb3⟩))
 exact bodyPost_ret (v:=tri none) (by simp[results,Tryz.results10,go_sem,pA,pB']) rfl ⟨rfl,Qa (Qa hb1 hb2) hb3⟩
theorem Qkl(P:PV)(T:Pq)
  (HL:Hid (∀W,Zb w W->Zr 11 #[.int .i64 k,.agg #[.int .u64 (o:Int),.string c],.slice ca cn cc,.string s] W (.int .i64 0)))
  (HS:Hid (∀W,Zb w W->Zr 24 #[.slice ca cn cc,.slice la ln lc] W (.bool false)))
  (HD:Hid (∀W,Calls Tryz.prog 25 #[.string s] W fun e w' => ∃sa sb sc da db dc,e = .returned (.tuple #[vP P.kd P.k P.old P.size (.slice sa P.S.length sc) (.slice da P.D.length dc),.int .i64 0])∧RdF w' sa sb sc da db dc P∧Zb W w'))
  (HO:Hid (∀W sa sb sc da db dc,Zb w W->RdF W sa sb sc da db dc P->Zr 26 #[vP P.kd P.k P.old P.size (.slice sa P.S.length sc) (.slice da P.D.length dc),.slice la ln lc,.slice ca cn cc] W (pv T))) :
  Zr 10 #[.int .i64 k,.slice la ln lc,.slice ca cn cc,.string s] w (tri T):=by
 obtain⟨kd,kk,old,size,S,D⟩:=P;simp only[vP] at HD HO
 go_enter Tryz.func10,Tryz.ntmps10
 go_upto_region 4 with (first
  | (go_at_call 23;with_reducible refine(HCm.out _ (Below.refl _ _)).mono ?_;rintro e w1 ⟨rfl,hb1⟩)
  | (go_at_call 11;with_reducible refine(HL.out _ hb1).mono ?_;rintro e w2 ⟨rfl,hb2⟩)
  | (go_at_call 24;with_reducible refine(HS.out _ (Qa hb1 hb2)).mono ?_;rintro e w3 ⟨rfl,hb3⟩)
  | (go_at_call 25;with_reducible refine(HD.out _).mono ?_;rintro e w4 ⟨sa,sb,sc,da,db,dc,rfl,hF,hb4⟩))
 obtain⟨F,hFe,h6,hb5,_⟩:=Yu w4 (.int .i64 kd) (.int .i64 kk) (.int .u64 (old:Int)) (.int .u64 (size:Int)) (.slice sa S.length sc) (.slice da D.length dc)
 try rw[hFe]
 clear hFe;obtain⟨c0,c1,c2,c3,c4,c5⟩:=h6.cells;have hbF:=Qa (Qa (Qa (Qa hb1 hb2) hb3) hb4) hb5;have hF5:=hF.next hb5;clear hF hb1 hb2 hb3 hb4 hb5 h6
 go_upto_region 5 with (go_at_call 26;with_reducible refine(HO.out _ _ _ _ _ _ _ hbF hF5).mono ?_;rintro e w6 ⟨rfl,hb6⟩)
 obtain⟨G,hGe,h3,hb7,_⟩:=Qft w6 T
 try rw[hGe]
 clear hGe;obtain⟨e0,e1,e2⟩:=h3.cells;have HB:Hid (∀t,Zb w (G.drewN t)):=fun t=>Qd (Qa (Qa hbF hb6) hb7) t
 clear hbF hb6 hb7 h3 hF5 c0 c1 c2 c3 c4 c5
 go_quiet (fail)
 go_wp2;exact bodyPost_ret (v:=tri T) (by simp[results,Tryz.results10,go_sem]) rfl ⟨rfl,HB.out _⟩
end
theorem Qf4(w:World)(la:OA)(n lc:Nat)(hc:n<=lc)(m:Nat)(hm:min n 150=m):Calls Tryz.prog 8 #[.slice la n lc] w fun e w'=>e = .returned (.slice la m lc)∧w=w':=by
 have z1:(n:Int)<=(lc:Int):=by omega
 by_cases h:150<n
 ·obtain rfl:m=150:=by omega
  have z2:(150:Int)<(n:Int):=by omega
  have z3:(150:Int)<=(lc:Int):=by omega
  clear hm h hc
  go_enter Tryz.func8,Tryz.ntmps8;go_wp2
  go_ret
  exact⟨rfl,rfl⟩
 ·obtain rfl:m=n:=by omega
  have z2 : ¬(150:Int)<(m:Int):=by omega
  clear hm h hc
  go_enter Tryz.func8,Tryz.ntmps8;go_wp2
  go_ret
  exact⟨rfl,rfl⟩
theorem QcT(w:World)(ht:Tr w)(k:Int)(ao:OA)(b off cap H n:Nat)(hH:H<=40)(hn:2^H=n)(L:LB)(hr:RdS w ao b off n L)(hsz : ∀s∈L,s.size<=140737488351232)(r:BA)(hq:Hid (nd (clk k) L H 0=r)) :
  Zr 55 #[.int .i64 k,.slice ao n cap] w (.string r):=by
 have hn0:0<n:=by rw[<-hn];exact LL H
 have hmx:n<=1099511627776:=by rw[<-hn];exact L5 (n:=2) (by decide) hH
 obtain rfl:=hr.ptr hn0;have HT:Hid (Tr w∧RdS w (some ⟨b,off,none⟩) b off n L∧(∀s∈L,s.size<=140737488351232)):=⟨ht,hr,hsz⟩;have hmx':(n:Int)<=1099511627776:=by omega
 have hb:=Below.refl w.heap.size w;have HN:Hid (2^H=n∧n<=1099511627776):=⟨hn,hmx⟩;have hc:=Qx k;have HC:Hid (clk k<=32):=hc;clear ht hr hsz hn hH hmx hc
 go_enter Tryz.func55,Tryz.ntmps55;go_wp2
 go_loopg [5,6] n (fun gg v i0 wr => ∃i:Nat,i<=n∧gg=n - i∧i0 = .int .i64 (i:Int)∧Qk wr w.heap.size v (Ul (clk k) L 0 i)∧Zb w wr)
 case atStart =>
  go_light;exact⟨0,Lf _,rfl,rfl,YV _ _,hb⟩
 case round =>
  clear hb;obtain⟨i,hi,rfl,rfl,ho,hb⟩:=hrel;have hi0:(0:Int)<=(i:Int):=Le _
  by_cases hlt:i<n
  ·have hlt':(i:Int)<(n:Int):=by omega
   obtain⟨t1,t2,t3⟩:=HT.out;obtain⟨s,hs⟩:=Ze (L.getD i ByteArray.empty);have ci:=(t2.next hb (Lb _)).at hlt;rw[hs] at ci;obtain⟨x,hx⟩:=Ze (nd (clk k) L 0 i);have HLf:=QeF wr (t1.next hb) k s (by rw[<-hs];have:=t3 _ (QI (ss:=L) (k:=i) (by rw[t2.hl];exact hlt));omega) x (by rw[<-hx,nd,hs])
   have HX:Hid (Qk wr w.heap.size u5 (Ul (clk k) L 0 i)∧Zb w wr∧i+1<=n∧x.size<=9223372036854775807∧Ul (clk k) L 0 i++[x]=Ul (clk k) L 0 (i+1)):=⟨ho,hb,hlt,by rw[<-hx,QD HC.out];have:=HC.out;omega,by rw[<-hx];exact QcP _ _ _ _⟩
   clear ho hb hi hlt hs hx t1 t2 t3
   go_wp2_with (first
    | (go_at_call 98;with_reducible refine HLf.mono ?_;rintro e w2 ⟨rfl,hb2⟩)
    | (at_builtin;refine QS _ rfl _ _ rfl w.heap.size _ (Ul (clk k) L 0 i) rfl (UW (QC HX.out.1 hb2 (Lb _)) _) (some ⟨w2.heap.size,0,none⟩) w2.heap.size 0 1 [x] rfl (UN w2 x HX.out.2.2.2.1) (fun h=>by cases h) ?c1 ?c2 ?_))
   case c1=>have h1:=HX.out.2.2.1;have h2:=HN.out.2;rw[YE];simp;omega
   case c2=>have:=(Qa HX.out.2.1 hb2).size;simp;omega
   intro v2 w3 h3 hb3;have HY:Hid (Qk w3 w.heap.size v2 (Ul (clk k) L 0 (i+1))∧Zb w w3):=⟨by rw[<-HX.out.2.2.2.2];exact h3,(bal (Qa HX.out.2.1 hb2) _).trans hb3⟩
   clear h3 hb3 hb2;go_wp2
   go_roundg (n - (i+1))
   case rel =>
    go_light;exact⟨i+1,HX.out.2.2.1,rfl,by go_num,HY.out.1,HY.out.2⟩
   case measure=>go_light;have:=HX.out.2.2.1;omega
  ·obtain rfl:i=n:=by omega
   have hlt' : ¬((i:Int)<(i:Int)):=by omega
   have HX:Hid (Qk wr w.heap.size u5 (Ul (clk k) L 0 i)∧Zb w wr):=⟨ho,hb⟩;clear ho hb hi hlt;go_wp2
   go_loopg [5] H (fun gg v wx => ∃(j N:Nat),j<=H∧gg=H - j∧Hid (2^(H - j)=N∧N<=1099511627776)∧Qk wx w.heap.size v (Ul (clk k) L j N)∧Zb w wx)
   case atStart =>
    go_light;exact⟨0,i,Lf _,rfl,HN.out,HX.out.1,HX.out.2⟩
   case round =>
    clear HX;obtain⟨j,N,hj,rfl,HJ,ho,hb⟩:=hrel;have hNN:=HJ.out;have hN0:0<N:=by rw[<-hNN.1];exact LL _
    obtain⟨g,cp,rfl,hg,hcp,hcm⟩:=Qeu ho (by rw[YE];exact hN0)
    rw[YE] at hcp ⊢
    by_cases hjl:j<H
    ·obtain⟨M,hM⟩:=Ze (2^(H - (j+1)));have hNM:N=2*M:=by rw[<-hNN.1,<-hM,show H - j=H - (j+1)+1 by omega,LA];omega
     have hM0:0<M:=by rw[<-hM];exact LL _
     have h1N:(1:Int)<(N:Int):=by omega
     have hN':(N:Int)<=1099511627776:=by omega
     have HX:Hid (Qk wr w.heap.size (.slice (some ⟨g,0,none⟩) (Ul (clk k) L j N).length cp) (Ul (clk k) L j N)∧Zb w wr∧N=2*M∧2^(H - (j+1))=M∧j+1<=H∧N<=1099511627776):=⟨ho,hb,hNM,hM,hjl,hNN.2⟩;clear ho hb hNN hN0 hg hcp hcm hNM hM hM0 hjl hj HJ;obtain⟨W0,hW0⟩ : ∃W0,W0=wr:=⟨wr,rfl⟩;subst hW0;go_wp2
     go_loopg [7,8] M (fun gg v i0 wx => ∃m:Nat,m<=M∧gg=M - m∧i0 = .int .i64 (2*(m:Int))∧Qk wx W0.heap.size v (Ul (clk k) L (j+1) m)∧Zb W0 wx)
     case atStart =>
      go_light;exact⟨0,Lf _,rfl,rfl,YV _ _,Below.refl _ _⟩
     case round =>
      obtain⟨m,hm,rfl,rfl,ho,hb⟩:=hrel;have hm0:(0:Int)<=(m:Int):=Le _;obtain⟨y1,y2,y3,y4,y5,y6⟩:=HX.out
      by_cases hlt:m<M
      ·have hlt':2*(m:Int)+1<(N:Int):=by omega
       have hlt2:2*(m:Int)<(N:Int):=by omega
       obtain⟨a,ha⟩:=Ze (2*m);have ea:2*(m:Int)=(a:Int):=by omega
       have k1:=(Jb (QC y1 hb (Lb _)) (j:=a) (by rw[YE];omega)).1
       have k2:=(Jb (QC y1 hb (Lb _)) (j:=a+1) (by rw[YE];omega)).1
       rw[QdE _ _ _ _ (by omega)] at k1 k2
       obtain⟨x,hx⟩:=Ze (nd (clk k) L j a);obtain⟨y,hy⟩:=Ze (nd (clk k) L j (a+1));obtain⟨z,hz⟩:=Ze (nd (clk k) L (j+1) m);rw[hx] at k1;rw[hy] at k2;have zx:x.size=clk k:=by rw[<-hx];exact QD HC.out _ _ _
       have zy:y.size=clk k:=by rw[<-hy];exact QD HC.out _ _ _
       have hcc:=HC.out;have HNd:Hid (∀W,Zb wr W->Zr 101 #[.int .i64 k,.string x,.string y] W (.string z)):=fun W h=>JX W (HT.out.1.next (Qa (Qa y2 hb) h)) k x y (by omega) (by omega) z (by rw[<-hz,nd,ha,hx,hy])
       have HK:Hid (∀W,Zb wr W->W.cell? ⟨g,a,none⟩=some (.string x)∧W.cell? ⟨g,a+1,none⟩=some (.string y)):=fun W h=>by
        have l1:=Lh wr _ k1;exact⟨(h.cell (p:=⟨g,a,none⟩) l1).trans k1,(h.cell (p:=⟨g,a+1,none⟩) l1).trans k2⟩
       have HK0:Hid (∀W,Zb W0 W->W.cell? ⟨g,a,none⟩=some (.string x)∧W.cell? ⟨g,a+1,none⟩=some (.string y)):=fun W h=>by
        have r1:=(Jb (QC y1 h (Lb _)) (j:=a) (by rw[YE];omega)).1
        have r2:=(Jb (QC y1 h (Lb _)) (j:=a+1) (by rw[YE];omega)).1
        rw[QdE _ _ _ _ (by omega)] at r1 r2
        rw[hx] at r1;rw[hy] at r2;exact⟨r1,r2⟩
       have HY:Hid (Qk wr W0.heap.size u7 (Ul (clk k) L (j+1) m)∧Zb W0 wr∧Ul (clk k) L (j+1) m++[z]=Ul (clk k) L (j+1) (m+1)∧z.size<=9223372036854775807∧m+1<=M∧N=2*M∧N<=1099511627776):=⟨ho,hb,by rw[<-hz];exact QcP _ _ _ _,by rw[<-hz,QD HC.out];omega,hlt,y3,y6⟩
       have e1:IntKind.i64.wrap ((a:Int)+1)=(a:Int)+1:=by rw[LW];omega
       have h0a:(0:Int)<=(a:Int):=by omega
       have h0b:(0:Int)<=(a:Int)+1:=by omega
       have hd:Zb wr wr.drew:=(Below.refl _ _).drew;rw[ea] at hlt' hlt2 ⊢;clear y1 y2 y3 y4 y5 y6 ho hb hm hlt hx hy hz zx zy hcc ha
       go_upto_region 11 with (fail)
       obtain⟨i0,hi0,hz0,hz1,hz2⟩:=info_parts Tryz.infoS;have HO:Hid (∀W,Zb wr W->(W.alloc (.cells #[.string z] 9)).ownsRow W0.heap.size 9 1 u7 m ((Ul (clk k) L (j+1) m).map Value.string)):=fun W h=>by
        have:=UW (QC HY.out.1 h (Lb _)) (.cells #[.string z] 9);rw[Qk,YE] at this;exact this
       have HM1:Hid (m+1<=maxLen∧(m+1)*16<=140737488355328):=by have:=HY.out;refine⟨?_,?_⟩;unfold maxLen;omega;omega
       have HS0:Hid (∀W,Zb wr W->W0.heap.size<=(W.alloc (.cells #[.string z] 9)).heap.size):=fun W h=>by have:=(Qa HY.out.2.1 h).size;simp;omega
       have kk:=HK.out wr.drew hd;have HG:Hid (∀w2 w3,Below wr.drew.heap.size wr.drew w2->(w2.alloc (.cells #[.string z] 9)).grownBy w3 u7.ownBlock->Zb W0 w3):=fun w2 w3 h1 h2=>(bal (Qa (Qa HY.out.2.1 hd) h1) _).grown h2 (by have:=(Qa (Qa HY.out.2.1 hd) h1).size;simp;omega) (fun q hq=>(HY.out.1.lt q hq).1)
       have HK3:Hid (∀w2 w3,Below wr.drew.heap.size wr.drew w2->(w2.alloc (.cells #[.string z] 9)).grownBy w3 u7.ownBlock->w3.cell? ⟨g,a,none⟩=some (.string x)∧w3.cell? ⟨g,a+1,none⟩=some (.string y)):=fun w2 w3 h1 h2=>HK0.out w3 (HG.out w2 w3 h1 h2)
       go_region_held3 (fun w'=>w'.cell? ⟨g,a,none⟩=some (.string x)∧w'.cell? ⟨g,a+1,none⟩=some (.string y)) (first|assumption|(exact HK3.out _ _ hb2 hgrow)|(exact HK.out _ (Qa hd hb2))|(exact HK.out _ (bal (Qa hd hb2) _))) (first
        | (go_at_call 101;with_reducible refine(HNd.out _ hd).mono ?_;rintro e w2 ⟨rfl,hb2⟩)
        | (refine step_append_lies _ (by rfl) _ _ _ (by rfl) W0.heap.size 9 i0 _ 1 16 Tryz.underlying22 hi0 hz0 hz1 hz2 rfl (by omega) u7 m ((Ul (clk k) L (j+1) m).map Value.string) (by rfl) (HO.out _ (Qa hd hb2)) ⟨w2.heap.size,0,none⟩ 1 1 [.string z] (by rfl) (by rfl) (World.news_of_block (cs:=#[.string z]) (t:=9) (fr:=(0,0)) (heap_alloc_new w2 _)) (by simp[Value.oneCell']) (by omega) HM1.out.1 HM1.out.2 (HS0.out _ (Qa hd hb2)) (w2.heap.size+1) (by simp) ?_;intro gg cap_1 w3 hown3 hgrow hat hlt3))
       have HZ:Hid (Qk w3 W0.heap.size (.slice (some ⟨gg,0,none⟩) (m+1) cap_1) (Ul (clk k) L (j+1) (m+1))∧Zb W0 w3):=⟨by
        rw[Qk,YE,<-HY.out.2.2.1,LK];exact hown3,HG.out _ _ hb2 hgrow⟩
       clear hown3 hgrow hat hlt3 HG HK3 HK HK0 HNd HO HS0 kk;have HEa:=Qc ea;clear ea;go_wp2
       go_roundg (M - (m+1))
       case rel =>
        go_light;exact⟨m+1,HY.out.2.2.2.2.1,rfl,by have:=HEa.out;rw[show 2*((m+1:Nat):Int)=(a:Int)+2 by omega],HZ.out.1,HZ.out.2⟩
       case measure=>go_light;have:=HY.out.2.2.2.2.1;omega
      ·obtain rfl:m=M:=by omega
       obtain⟨a,ha⟩:=Ze (2*m);have ea:2*(m:Int)=(a:Int):=by omega
       have hlt' : ¬((a:Int)+1<(N:Int)):=by omega
       have e1:IntKind.i64.wrap ((a:Int)+1)=(a:Int)+1:=by rw[LW];omega
       rw[ea];have HY:Hid (Qk wr w.heap.size u7 (Ul (clk k) L (j+1) m)∧Zb w wr∧2^(H - (j+1))=m∧j+1<=H∧m<=1099511627776):=⟨World.ownsRow.mono ho y2.size,Qa y2 hb,y4,y5,by omega⟩
       clear y1 y2 y3 y4 y5 y6 ho hb hm hlt HX ha ea;go_wp2
       go_roundg (H - (j+1))
       case rel =>
        go_light;obtain⟨k1,k2,k3,k4,k5⟩:=HY.out;exact⟨j+1,m,k4,rfl,⟨k3,k5⟩,k1,k2⟩
       case measure=>go_light;have:=HY.out.2.2.2.1;omega
    ·obtain rfl:j=H:=by omega
     obtain⟨n1,n2⟩:=hNN;rw[ND,Nj] at n1;subst n1;have k1:=(Jb ho (j:=0) (by rw[YE];decide)).1
     rw[QdE _ _ _ _ (by decide),hq.out] at k1
     have h1 : ¬((1:Int)<1):=by decide
     have HB:Hid (Zb w wr):=hb;clear ho hb hcp hcm hg HJ n2 hN0 hj hjl;go_wp2
     go_ret
     exact⟨rfl,HB.out⟩
theorem RdS.cut{w:World}{b off len:Nat}{ss:LB}(h:RdS w (some ⟨b,off,none⟩) b off len ss)(i n:Nat)(hn:i+n<=len):RdS w (some ⟨b,off+i,none⟩) b (off+i) n ((ss.drop i).take n):=by
 refine⟨by rw[Lv,LD,h.hl];omega,fun _=>rfl,fun j v hv => ?_,fun s hs=>h.sz s (LU (LJ hs))⟩
 rw[I4,Nf] at hv
 split at hv
 ·rw[I3,NL] at hv;rw[If];exact h.rng (i+j) v hv
 ·cases hv
theorem QhI(w:World)(ht:Tr w)(k:Int)(ao:OA)(b off len cap:Nat)(L:LB)(hr:RdS w ao b off len L)(hsz : ∀s∈L,s.size<=140737488351232)(hmx:len<=8796093022208)(hc:len<=cap)(h i:Nat)(hh:h<=40)(hi:(i+1)*2^h<=len)(r:BA)(hq:nd (clk k) L h i=r) :
  Zr 142 #[.int .i64 k,.slice ao len cap,.agg #[.int .i64 (h:Int),.int .u64 (i:Int)]] w (.tuple #[.string r,.bool true]):=by
 obtain⟨N,hN⟩:=Ze (2^h);have hN0:0<N:=by rw[<-hN];exact LL h
 rw[hN] at hi;have hi2:i*N+N<=len:=by rw[LI,LP] at hi;exact hi
 obtain rfl:=hr.ptr (by omega)
 obtain⟨lo,hlo⟩:=Ze (i*N);rw[hlo] at hi2;have hil:i<=lo:=by rw[<-hlo];exact Nm i hN0
 have HTr:Hid (∀W,Zb w W->Zr 55 #[.int .i64 k,.slice (some ⟨b,off+lo,none⟩) N (cap - lo)] W (.string r)):=fun W hb=>by
  refine QcT W (ht.next hb) k _ b (off+lo) (cap - lo) h N hh hN ((L.drop lo).take N) ((hr.next hb (Lb _)).cut lo N hi2) (fun s hs=>hsz s (LU (LJ hs))) r ?_
  show _=_
  rw[<-hlo,<-hN,Qi2];exact hq
 obtain⟨q,hqq⟩:=Ze (len / N);have hq1:i+1<=q:=by rw[<-hqq,Ih hN0];exact hi
 have hql:q<=len:=by rw[<-hqq];exact Nv _ _
 obtain⟨p,rfl⟩ : ∃p,q=p+1:=⟨q - 1,by omega⟩
 have t1 : ¬((h:Int)<0):=by omega
 have t2 : ¬((40:Int)<(h:Int)):=by omega
 have e0:IntKind.u64.wrap (len:Int)=(len:Int):=Y9 _ (by omega) (by omega)
 have eq:(len:Int) / (N:Int)=(p:Int)+1:=by
  have:(len:Int) / (N:Int)=((len / N:Nat):Int):=by simp
  rw[this,hqq];rfl
 have ep:IntKind.u64.wrap (p:Int)=(p:Int):=Y9 _ (by omega) (by omega)
 have ep1:IntKind.u64.wrap ((p:Int)+1)=(p:Int)+1:=Y9 _ (by omega) (by omega)
 have t3:decide (p<i)=false:=by simp;omega
 have t4:decide (len<N)=false:=by simp;omega
 have em1:(i:Int)*(N:Int)=(lo:Int):=by rw[<-hlo];simp
 have em2:((i:Int)+1)*(N:Int)=(lo:Int)+(N:Int):=by rw[Int.add_mul,em1,Int.one_mul]
 have ei:IntKind.u64.wrap ((i:Int)+1)=(i:Int)+1:=Y9 _ (by omega) (by omega)
 have el:IntKind.u64.wrap (lo:Int)=(lo:Int):=Y9 _ (by omega) (by omega)
 have eh:IntKind.u64.wrap ((lo:Int)+(N:Int))=(lo:Int)+(N:Int):=Y9 _ (by omega) (by omega)
 have hN' : ¬((N:Int)=0):=by omega
 have s1:(lo:Int)<=(lo:Int)+(N:Int):=by omega
 have s2:(lo:Int)+(N:Int)<=(cap:Int):=by omega
 have s3 : ¬(cap=lo):=by omega
 have s4:lo+N - lo=N:=by omega
 have HN:Hid (2^h=N∧N<=1099511627776∧h<=40):=⟨hN,by rw[<-hN];exact L5 (n:=2) (by decide) hh,hh⟩
 have hb:=Below.refl w.heap.size w;clear hN hN0 hi hi2 hlo hil hqq hq1 hql hq ht hr hsz hmx hc hh
 go_enter Tryz.func142,Tryz.ntmps142;go_wp2
 go_loopg [8,9] h (fun gg v i0 wr => ∃(j M:Nat),j<=h∧gg=h - j∧v = .int .u64 (M:Int)∧i0 = .int .i64 (j:Int)∧Hid (2^j=M)∧w.alloc (.cells #[.int .i64 (h:Int),.int .u64 (i:Int)] 83)=wr)
 case atStart =>
  go_light;exact⟨0,1,Lf _,rfl,rfl,rfl,rfl,rfl⟩
 case round =>
  obtain⟨j,M,hj,rfl,rfl,rfl,HM,rfl⟩:=hrel
  by_cases hlt:j<h
  ·have hlt':(j:Int)<(h:Int):=by omega
   obtain⟨M2,hM2⟩:=Ze (2*M);have e2:IntKind.u64.wrap (2*(M:Int))=(M2:Int):=by
    have h1:=HM.out;have h2:=L5 (n:=2) (by decide) (show j<=40 by have:=HN.out.2.2;omega)
    rw[Y9 _ (by omega) (by omega)];omega
   have HX:Hid (2^(j+1)=M2∧j+1<=h):=⟨by rw[LA,HM.out];omega,hlt⟩
   clear hlt hj HM hM2;go_wp2
   go_roundg (h - (j+1))
   case rel =>
    go_light;exact⟨j+1,M2,HX.out.2,rfl,rfl,by go_num,HX.out.1,rfl⟩
   case measure=>go_light;have:=HX.out.2;omega
  ·obtain rfl:j=h:=by omega
   obtain rfl:M=N:=by rw[<-HM.out];exact HN.out.1
   have hlt' : ¬((j:Int)<(j:Int)):=by omega
   clear hj hlt HM
   go_upto_region 9 with (fail)
   go_quiet (fail)
   go_wp2_with (go_at_call 55;with_reducible refine(HTr.out _ (Qd (bal hb _) _)).mono ?_;rintro e w2 ⟨rfl,hb2⟩)
   go_ret2
   exact⟨rfl,Qa (Qd (bal hb _) _) hb2⟩
theorem OE(w:World)(pa:OA)(pb po pc:Nat)(A:LB)(hA:RdS w pa pb po A.length A)(qa:OA)(qb qo qc:Nat)(B:LB)(hB:RdS w qa qb qo B.length B)(hmA:A.length<=8796093022208)(hmB:B.length<=8796093022208)(T:Pq)(hT:fr A B=T) :
  Zr 42 #[.slice pa A.length pc,.slice qa B.length qc] w (tri T):=by
 have HRd:Hid (∀W,Zb w W->RdS W pa pb po A.length A∧RdS W qa qb qo B.length B):=fun W hb=>⟨hA.next hb (Lb _),hB.next hb (Lb _)⟩
 have H0:Hid (fr (A.drop 0) (B.drop 0)=T∧Zb w w):=⟨hT,Below.refl _ _⟩;have zA:(A.length:Int)<=8796093022208:=by omega
 have zB:(B.length:Int)<=8796093022208:=by omega
 clear hA hB hT hmA hmB
 go_enter Tryz.func42,Tryz.ntmps42;go_wp2
 go_loopg [7] A.length (fun g i wr => ∃j:Nat,g=A.length - j∧j<=A.length∧i = .int .i64 (j:Int)∧Hid (fr (A.drop j) (B.drop j)=T∧Zb w wr))
 case atStart =>
  go_light;exact⟨0,rfl,Lf _,rfl,H0⟩
 case round =>
  clear H0;obtain⟨j,rfl,hj,rfl,HI⟩:=hrel
  by_cases hlt:j<A.length
  ·by_cases hlb:j<B.length
   ·have y0:(0:Int)<=(j:Int):=Le _;have y1:(j:Int)<(A.length:Int):=by omega
    have y2:(j:Int)<(B.length:Int):=by omega
    obtain⟨hrA,hrB⟩:=HRd.out wr HI.out.2;obtain rfl:=hrA.ptr (by omega)
    obtain rfl:=hrB.ptr (by omega)
    have ca:=hrA.at hlt;have cb:=hrB.at hlb;have hstep:=Qks hlt hlb;obtain⟨x,hx⟩:=Ze (A.getD j ByteArray.empty);obtain⟨y,hy⟩:=Ze (B.getD j ByteArray.empty);rw[hx] at ca hstep;rw[hy] at cb hstep;have HW1:Hid (∀t,Zb w (wr.drewN t)):=fun t=>Qd HI.out.2 t
    by_cases he:x=y
    ·have HN:Hid (fr (A.drop (j+1)) (B.drop (j+1))=T):=by
      rw[<-HI.out.1,hstep,QgG he];rfl
     subst he;clear hrA hrB hx hy hstep HI
     go_upto_region 4 with (fail)
     go_quiet (fail)
     go_wp2
     go_roundg (A.length - (j+1))
     case rel =>
      go_light;exact⟨j+1,rfl,by omega,by go_num,HN.out,HW1.out _⟩
     case measure=>go_light;omega
    ·have hTe:T=some (x,y):=by
      rw[<-HI.out.1,hstep,un,if_neg he];rfl
     subst hTe;have hzb:=Yo he;have hz:=YG he;have HX:Hid (∀t,(wr.drewN t).cell? ⟨pb,po+j,none⟩=some (.string x)∧(wr.drewN t).cell? ⟨qb,qo+j,none⟩=some (.string y)):=fun t=>⟨ca,cb⟩
     clear hrA hrB hx hy hstep HI he
     go_upto_region 4 with (fail)
     go_quiet (fail)
     go_upto_region 5 with (fail)
     go_quiet (fail)
     go_wp2;exact bodyPost_ret (v:=tri (some (x,y))) (by simp[results,Tryz.results42,go_sem,pA,pB']) rfl ⟨rfl,Qd (HW1.out _) _⟩
   ·have hTn:T=none:=by rw[<-HI.out.1,Nb (show B.length<=j by omega),Qkt]
    subst hTn;have hz1:(j:Int)<(A.length:Int):=by omega
    have hz2 : ¬(j:Int)<(B.length:Int):=by omega
    have hB':=HI.out.2;clear HI hlt hlb hj;go_wp2;exact bodyPost_ret (v:=tri none) (by simp[results,Tryz.results42,go_sem,pA,pB']) rfl ⟨rfl,hB'⟩
  ·obtain rfl:j=A.length:=by omega
   have hTn:T=none:=by rw[<-HI.out.1,Nb (Lb _),Qml]
   subst hTn;have hz1 : ¬(A.length:Int)<(A.length:Int):=by omega
   have hB':=HI.out.2;clear HI hlt hj;go_wp2;exact bodyPost_ret (v:=tri none) (by simp[results,Tryz.results42,go_sem,pA,pB']) rfl ⟨rfl,hB'⟩
theorem Oi(w:World)(ht:Tr w)(k:Int)(la:OA)(lb lo lc:Nat)(L:LB)(hr:RdS w la lb lo L.length L)(hsz : ∀s∈L,s.size<=140737488351232)(hm:L.length<=8796093022208)(hlc:L.length<=lc)(h i:Nat)(hh:h<=40)(hi:(i+1)*2^h<=L.length)(r:BA)(hq:nd (clk k) L h i=r) :
  Zr 92 #[.int .i64 k,.slice la L.length lc,bkV h i] w (.string r):=by
 have HT:Hid (∀W,Zb w W->Zr 142 #[.int .i64 k,.slice la L.length lc,.agg #[.int .i64 (h:Int),.int .u64 (i:Int)]] W (.tuple #[.string r,.bool true])):=fun W hb=>QhI W (ht.next hb) k la lb lo L.length lc L (hr.next hb (Lb _)) hsz hm hlc h i hh hi r hq
 obtain⟨F,hFe,hd,hb0⟩ : ∃F,w.alloc (.cells #[.int .i64 (h:Int),.int .u64 (i:Int)] 83)=F∧F.heap[w.heap.size]? = some (.cells #[.int .i64 (h:Int),.int .u64 (i:Int)] 83 (0,0))∧Zb w F:=⟨_,rfl,heap_alloc_new w _,bal (Below.refl _ _) _⟩;have d0:F.cell? ⟨w.heap.size,0,none⟩=some (.int .i64 (h:Int)):=by rw[cell_of_row F w.heap.size 0 _ _ (0,0) hd];rfl
 have d1:F.cell? ⟨w.heap.size,1,none⟩=some (.int .u64 (i:Int)):=by rw[cell_of_row F w.heap.size 1 _ _ (0,0) hd];rfl
 unfold bkV;clear hr hsz hm hlc hh hi hq ht hd
 go_enter Tryz.func92,Tryz.ntmps92
 go_upto_region 1 with (fail)
 try rw[hFe]
 clear hFe
 go_wp2_with (go_at_call 142;with_reducible refine(HT.out _ hb0).mono ?_;rintro e w1 ⟨rfl,hb1⟩)
 go_ret
 exact⟨rfl,Qa hb0 hb1⟩
end Go.Proofs.YtdocjikpcbmcgaaGreatDoor
