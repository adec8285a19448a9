/- Own work. -/
import Derived.Test.YtoblgjledefdbabGreatDoorQs33
set_option maxRecDepth 100000
set_option maxHeartbeats 8000000
namespace Go.Proofs.YtoblgjledefdbabGreatDoor
open Go.RowKit
attribute [local go_sem ↓] Go.wp_at_zero Go.wp_at_succ
open Go.Proofs.Tryz
section
open Cv (zl)
theorem Qo2(w:World)(b:Nat)(o:Obj):ChT (fun x=>x=b) w (ChangeMaps.setBlock w b o) :=
 ⟨rfl,rfl,rfl,by simp[ChangeMaps.setBlock],fun q hq=>by simp[ChangeMaps.setBlock,show ¬b=q from fun e=>hq e.symm]⟩
theorem QjU{w:World}{b:Nat}{f g:Int->Nat->Option Nat}(h:Mi w b f)(e:∀x y,US x y->f x y=g x y):Mi w b g:=by
 obtain⟨es,c,h1,h2,h3,h4⟩:=h;exact⟨es,c,h1,h2,h3,fun x y s hf=>by rw[<-e x y hf];exact h4 x y s hf⟩
theorem QeE(w:World)(kd k:Int)(old n:Nat)(vs:Value)(da:OA)(dn dc:Nat)(la:OA)(ln lc:Nat)(ca:OA)(cn cc:Nat)(Bs:List (Nat×Nat))(hBf:∀b∈Bs,b.1<=40∧b.2<2^40)(hBl:Bs.length<=100000)(hBn:Bs.Nodup)
  (HBo:∀W,Below w.heap.size w W->Calls prog 60 #[vP kd k old n vs (.slice da dn dc)] W fun e w'=> ∃v,e= .returned v∧Cv.Yp w' W.heap.size v (zl Bs)∧Below W.heap.size W w')
  (T:Pq) (HA:∀W mb,Below w.heap.size w W->Mi W mb (fun h i=>if 0<=h then ixM Bs h.toNat i else none)->Calls prog 61 #[wkV k (lsV k la ln lc (some mb)) 135 (prV' da dn dc ca cn cc (some mb)),.int .u64 n] W fun e w'=>e= .returned (pv T)∧Below W.heap.size W w') :
  Calls prog 29 #[vP kd k old n vs (.slice da dn dc),.slice la ln lc,.slice ca cn cc] w fun e w'=>e= .returned (pv T)∧Below w.heap.size w w':=by
 have HBo':=Qc HBo;have HA':=Qc HA;unfold vP at HBo' ⊢;obtain⟨F,hFe,h6,hb,hsz⟩:=Us w (.int .i64 kd) (.int .i64 k) (.int .u64 old) (.int .u64 n) vs (.slice da dn dc);obtain⟨F1,hF1,hp3,hb1⟩:=QbM F;obtain⟨F2,hF2⟩:∃F2,F1.alloc (.map #[] 0)=F2:=⟨_,rfl⟩;have hm2:Mi F2 F1.heap.size (fun _ _=>none):=by rw[<-hF2];exact QoD F1
 have hb2:Below F1.heap.size F1 F2:=by rw[<-hF2];exact bal (Lc _ _) _
 have hs2:F1.heap.size=w.heap.size+1+1:=by rw[<-hF1,LK,hsz]
 have hx6:=h6.next (Qa hb1 hb2);have hx3:=hp3.next hb2;obtain⟨c0,c1,c2,c3,c4,c5⟩:=hx6.cells;have hbF:=Qa hb (Qa hb1 hb2);rw[hsz] at hx3;rw[hs2] at hm2;have HQ:=Qc (Lx hx6 (Lx hx3 hm2));clear HBo HA h6 hp3 hm2 hb hb1 hb2 hx6 hx3;have hmm := @run_makeMap prog
 go_enter func29,ntmps29
 go_upto_region 2 with (fail)
 try rw[hFe,hF1,hF2]
 try rw[hs2]
 clear hFe hF1 hF2 hmm
 go_upto_region 3 with (go_at_call 60;with_reducible refine(HBo'.out _ hbF).mono ?_;rintro e w3 ⟨v,rfl,h3,hb3⟩;obtain⟨a3,n3,cp3,rfl⟩:=Cv.Qs h3)
 obtain⟨a3',gB,n3',cp3',hv3,hrB,hrn⟩:=OP h3 (fun x hx=>by
  obtain⟨b0,hb0,rfl⟩:=List.mem_map.1 hx;have:=hBf b0 hb0;exact⟨⟨by simp only;omega,by simp only;omega⟩,by simp only;omega⟩)
 injection hv3 with e1 e2 e3
 subst e1 e2 e3;have hnl:Bs.length=n3:=by have:=hrB.len;rwa [Cv.Yd] at this
 subst hnl;have hgB:0<Bs.length->w.heap.size+1+1<gB∧gB<w3.heap.size:=fun h0=>by
  obtain⟨g,hg1,hg2,hg3⟩:=Qkf h3 (by rw[Cv.Yd];exact h0)
  have:=hrB.addr h0;rw[hg1] at this;injection this with this
  injection this with this _
  subst this;have:=HQ.out.2.2.lt;exact⟨by omega,hg3⟩
 have HQ3:Hid (Six w3 w.heap.size (.int .i64 kd) (.int .i64 k) (.int .u64 old) (.int .u64 n) vs (.slice da dn dc)∧P3 w3 (w.heap.size+1) none∧Below w.heap.size w w3):=⟨HQ.out.1.next hb3,HQ.out.2.1.next hb3,Qa hbF hb3⟩;have HM0:Hid (Mi w3 (w.heap.size+1+1) (fun h i=>if 0<=h then ixM (Bs.take 0) h.toNat i else none)):=by
  refine QjU (HQ.out.2.2.same (hb3.block _ HQ.out.2.2.lt)) fun x y _=> ?_
  split
  ·rw[Ij];exact(OF.2 (by simp)).symm
  ·rfl
 have hz:(Bs.length:Int)<=100000:=by omega
 have HG:=Qc hgB;have HR:=Qc hrB;clear HQ h3 hb3 hbF c0 c1 c2 c3 c4 c5 hrn hgB hrB hs2 hsz HBo'
 go_loopg [14] Bs.length (fun g i wr=> ∃j:Nat,g=Bs.length-j∧j<=Bs.length∧i= .int .i64 j∧Hid (Mi wr (w.heap.size+1+1) (fun h i=>if 0<=h then ixM (Bs.take j) h.toNat i else none))∧Hid (Bx (w.heap.size+1+1) w3 wr))
 case atStart=>go_light;exact⟨0,rfl,Lm _,rfl,HM0,Bx.refl _ _⟩
 case round=>
  clear HM0;obtain⟨j,rfl,hj,rfl,HMi,HBx⟩:=hrel
  by_cases hlt:j<Bs.length
  ·have z0:(0:Int)<=(j:Int):=Lf _;have z1:(j:Int)<(Bs.length:Int):=by omega
   have hrd:=HR.out;obtain rfl:=hrd.addr (by omega)
   obtain⟨b,hbb⟩:∃b,Bs.getD j (0,0)=b:=⟨_,rfl⟩;have hbm:b∈Bs:=by rw[<-hbb,La,Ld hlt];exact LN _
   obtain⟨k0,k1⟩:=hrd.cell j hlt;have hzl:(zl Bs).getD j (0,0)=((b.1:Int),b.2):=by
    rw[<-hbb,La,La,zl,No,Ld hlt];rfl
   rw[hzl] at k0 k1;simp only at k0 k1;rw[Lp] at k0 k1;have hgB:=HG.out (by omega)
   have hblk:=HBx.out.block gB hgB.2 (by omega)
   replace k0:=(Lq (a:=⟨gB,j*2,none⟩) hblk).trans k0;replace k1:=(Lq (a:=⟨gB,j*2+1,none⟩) hblk).trans k1;obtain⟨f1,f2⟩:=hBf b hbm;have htk:Bs.take (j+1)=Bs.take j++[b]:=by rw[LQ hlt,<-hbb,La,Ld hlt];rfl
   have hnm:b ∉ Bs.take j:=fun hm=>by
    have h1:(Bs.take (j+1)).Nodup:=hBn.sublist (Iy _ _);rw[htk] at h1;exact(List.nodup_append.1 h1).2.2 b hm b (by simp) rfl
   have hlen:(Bs.take j).length=j:=by rw[Lv];omega
   obtain⟨bh,bk⟩:=b;simp only at k0 k1 f1 f2;obtain⟨W1,hW1⟩:∃W1,wr.alloc (.cells #[.int .i64 bh,.int .u64 bk] 131)=W1:=⟨_,rfl⟩;have hb1:Below wr.heap.size wr W1:=by rw[<-hW1];exact bal (Lc _ _) _
   have t1:W1.heap[wr.heap.size]? = some (.cells #[.int .i64 bh,.int .u64 bk] 131 (0,0)):=by rw[<-hW1];exact Lr wr _
   have d0:W1.cell? ⟨wr.heap.size,0,none⟩=some (.int .i64 bh):=by rw[cell_of_row W1 wr.heap.size 0 _ _ (0,0) t1];rfl
   have d1:W1.cell? ⟨wr.heap.size,1,none⟩=some (.int .u64 bk):=by rw[cell_of_row W1 wr.heap.size 1 _ _ (0,0) t1];rfl
   have hf:US (bh:Int) bk:=⟨⟨by omega,by omega⟩,by omega⟩
   have hM1:Mi W1 (w.heap.size+1+1) _:=HMi.out.same (hb1.block _ HMi.out.lt);obtain⟨es,cl,hrun,hM2⟩:=hM1.write hf j;unfold kv ni at hrun;have hch:=Qo2 W1 (w.heap.size+1+1) (.map es cl);obtain⟨W2,hW2⟩:∃W2,ChangeMaps.setBlock W1 (w.heap.size+1+1) (.map es cl)=W2:=⟨_,rfl⟩;rw[hW2] at hrun hM2 hch;have HN:Hid (Mi W2 (w.heap.size+1+1) (fun h i=>if 0<=h then ixM (Bs.take (j+1)) h.toNat i else none)∧Bx (w.heap.size+1+1) w3 W2):=by
    refine⟨QjU hM2 fun x y _=> ?_,(HBx.out.next hb1).put hch⟩
    show(if x=(bh:Int)∧y=bk then some j else if 0<=x then ixM (Bs.take j) x.toNat y else none)=if 0<=x then ixM (Bs.take (j+1)) x.toNat y else none
    by_cases hx:0<=x
    ·rw[Lo hx,Lo hx,htk,Qma hnm,hlen]
     by_cases he:x=(bh:Int)∧y=bk
     ·obtain⟨rfl,rfl⟩:=he;rw[Lo ⟨rfl,rfl⟩,Lo (by rw[Ni])]
     ·rw[Le he,Le (fun e=>he ?_)]
      injection e with e1 e2
      exact⟨by omega,e2⟩
    ·rw[Le hx,Le hx,Le (fun e:x=(bh:Int)∧y=bk=>hx (by omega))]
   clear hrd hzl hbb hbm hblk hgB htk hnm hlen t1 hM1 hM2 hch hW2 hf f1 f2 HMi HBx
   go_upto_region 5 with (fail)
   try rw[hW1]
   clear hW1 k0 k1;go_wp2
   go_roundg (Bs.length-(j+1))
   case rel=>go_light;exact⟨j+1,rfl,by omega,by go_num,HN.out.1,HN.out.2⟩
   case measure=>go_light;omega
  ·obtain rfl:j=Bs.length:=by omega
   have hz1:¬(Bs.length:Int)<(Bs.length:Int):=by omega
   have hMf:=HMi.out;rw[NA] at hMf;have x6:Six wr w.heap.size (.int .i64 kd) (.int .i64 k) (.int .u64 old) (.int .u64 n) vs (.slice da dn dc):=(HBx.out.block _ HQ3.out.1.lt (by omega)).trans HQ3.out.1
   have x3:P3 wr (w.heap.size+1) none:=(HBx.out.block _ HQ3.out.2.1.lt (by omega)).trans HQ3.out.2.1
   have hbw:Below w.heap.size w wr:=HQ3.out.2.2.trans (HBx.out.below (by omega) (I8 HQ3.out.1.lt))
   obtain⟨c0,c1,c2,c3,c4,c5⟩:=x6.cells;have HAW:=Qc (HA'.out wr (w.heap.size+1+1) hbw hMf);have H3:=Qc x3;clear HMi HBx HQ3 x6 x3 hMf HA' HR HG hlt hj
   go_wp2_with (go_at_call 61;with_reducible refine HAW.out.mono ?_;rintro e w8 ⟨rfl,hb8⟩;have h3:=H3.out.next hb8;obtain⟨r0,r1,r2⟩:=h3.cells;have rf:=h3.fz;simp only[pA,pB',Option.isSome_none] at r0 r1 r2)
   have hp:=h3.put T;have hch:=JV w8 (w.heap.size+1) T;obtain⟨d0,d1,d2⟩:=hp.cells;refine LA (v:=pv T) (by simp[results,results29,go_sem,d0,d1,d2]) rfl ⟨rfl,?_⟩
   exact(Qa hbw hb8).trans (hch.below (by rintro b rfl;omega))
end
abbrev tri(T:Pq):Value := .tuple #[.string (pA T),.string (pB' T),.bool T.isSome]
section
variable (w:World) (k:Int) (la:OA) (ln lc:Nat) (ca:OA) (cn cc:Nat) (s:BA) (o:Nat) (c:BA)
  (HCm:Hid (∀W,Below w.heap.size w W->Calls prog 26 #[.int .i64 k,.slice la ln lc] W fun e w'=>e= .returned (.agg #[.int .u64 o,.string c])∧Below W.heap.size W w'))
include HCm
theorem Qje(r:Int)(hr:r≠0)
  (HL:Hid (∀W,Below w.heap.size w W->Calls prog 7 #[.int .i64 k,.agg #[.int .u64 o,.string c],.slice ca cn cc,.string s] W fun e w'=>e= .returned (.int .i64 r)∧Below W.heap.size W w')) :
  Calls prog 9 #[.int .i64 k,.slice la ln lc,.slice ca cn cc,.string s] w fun e w'=>e= .returned (tri none)∧Below w.heap.size w w':=by
 have hz:(r != 0)=true:=by simpa using hr
 have hz2:¬r=0:=hr;clear hr
 go_enter func9,ntmps9
 go_wp2_with (first
  | (go_at_call 26;with_reducible refine(HCm.out _ (Lc _ _)).mono ?_;rintro e w1 ⟨rfl,hb1⟩)
  | (go_at_call 7;with_reducible refine(HL.out _ hb1).mono ?_;rintro e w2 ⟨rfl,hb2⟩))
 exact LA (v:=tri none) (by simp[results,results9,go_sem,pA,pB']) rfl ⟨rfl,Qa hb1 hb2⟩
theorem Qom
  (HL:Hid (∀W,Below w.heap.size w W->Calls prog 7 #[.int .i64 k,.agg #[.int .u64 o,.string c],.slice ca cn cc,.string s] W fun e w'=>e= .returned (.int .i64 0)∧Below W.heap.size W w'))
  (HS:Hid (∀W,Below w.heap.size w W->Calls prog 27 #[.slice ca cn cc,.slice la ln lc] W fun e w'=>e= .returned (.bool true)∧Below W.heap.size W w')) :
  Calls prog 9 #[.int .i64 k,.slice la ln lc,.slice ca cn cc,.string s] w fun e w'=>e= .returned (tri none)∧Below w.heap.size w w':=by
 go_enter func9,ntmps9
 go_wp2_with (first
  | (go_at_call 26;with_reducible refine(HCm.out _ (Lc _ _)).mono ?_;rintro e w1 ⟨rfl,hb1⟩)
  | (go_at_call 7;with_reducible refine(HL.out _ hb1).mono ?_;rintro e w2 ⟨rfl,hb2⟩)
  | (go_at_call 27;with_reducible refine(HS.out _ (Qa hb1 hb2)).mono ?_;rintro e w3 ⟨rfl,hb3⟩))
 exact LA (v:=tri none) (by simp[results,results9,go_sem,pA,pB']) rfl ⟨rfl,Qa (Qa hb1 hb2) hb3⟩
theorem QlQ(P:PV)(T:Pq)
  (HL:Hid (∀W,Below w.heap.size w W->Calls prog 7 #[.int .i64 k,.agg #[.int .u64 o,.string c],.slice ca cn cc,.string s] W fun e w'=>e= .returned (.int .i64 0)∧Below W.heap.size W w'))
  (HS:Hid (∀W,Below w.heap.size w W->Calls prog 27 #[.slice ca cn cc,.slice la ln lc] W fun e w'=>e= .returned (.bool false)∧Below W.heap.size W w'))
  (HD:Hid (∀W,Calls prog 28 #[.string s] W fun e w'=> ∃sa sb sc da db dc,e= .returned (.tuple #[vP P.kd P.k P.old P.size (.slice sa P.S.length sc) (.slice da P.D.length dc),.int .i64 0])∧RdF w' sa sb sc da db dc P∧Below W.heap.size W w'))
  (HO:Hid (∀W sa sb sc da db dc,Below w.heap.size w W->RdF W sa sb sc da db dc P->Calls prog 29 #[vP P.kd P.k P.old P.size (.slice sa P.S.length sc) (.slice da P.D.length dc),.slice la ln lc,.slice ca cn cc] W fun e w'=>e= .returned (pv T)∧Below W.heap.size W w')) :
  Calls prog 9 #[.int .i64 k,.slice la ln lc,.slice ca cn cc,.string s] w fun e w'=>e= .returned (tri T)∧Below w.heap.size w w':=by
 obtain⟨kd,kk,old,size,S,D⟩:=P;simp only[vP] at HD HO
 go_enter func9,ntmps9
 go_upto_region 4 with (first
  | (go_at_call 26;with_reducible refine(HCm.out _ (Lc _ _)).mono ?_;rintro e w1 ⟨rfl,hb1⟩)
  | (go_at_call 7;with_reducible refine(HL.out _ hb1).mono ?_;rintro e w2 ⟨rfl,hb2⟩)
  | (go_at_call 27;with_reducible refine(HS.out _ (Qa hb1 hb2)).mono ?_;rintro e w3 ⟨rfl,hb3⟩)
  | (go_at_call 28;with_reducible refine(HD.out _).mono ?_;rintro e w4 ⟨sa,sb,sc,da,db,dc,rfl,hF,hb4⟩))
 obtain⟨F,hFe,h6,hb5,_⟩:=Us w4 (.int .i64 kd) (.int .i64 kk) (.int .u64 old) (.int .u64 size) (.slice sa S.length sc) (.slice da D.length dc)
 try rw[hFe]
 clear hFe;obtain⟨c0,c1,c2,c3,c4,c5⟩:=h6.cells;have hbF:=Qa (Qa (Qa (Qa hb1 hb2) hb3) hb4) hb5;have hF5:=hF.next hb5;clear hF hb1 hb2 hb3 hb4 hb5 h6
 go_upto_region 5 with (go_at_call 29;with_reducible refine(HO.out _ _ _ _ _ _ _ hbF hF5).mono ?_;rintro e w6 ⟨rfl,hb6⟩)
 obtain⟨G,hGe,h3,hb7,_⟩:=Qki w6 T
 try rw[hGe]
 clear hGe;obtain⟨e0,e1,e2⟩:=h3.cells;have HB:Hid (∀t,Below w.heap.size w (G.drewN t)):=fun t=>Qi (Qa (Qa hbF hb6) hb7) t
 clear hbF hb6 hb7 h3 hF5 c0 c1 c2 c3 c4 c5
 go_quiet (fail)
 go_wp2;exact LA (v:=tri T) (by simp[results,results9,go_sem]) rfl ⟨rfl,HB.out _⟩
end
theorem QdN{w:World}(ht:Tb w){k:Int}{la:OA}{lb lo lc:Nat}{L:LB}(hr:RdS w la lb lo L.length L)(hsz:∀s∈L,s.size<=140737488351232)(hm:L.length<=1099511627776){n:Nat}{Bs:List (Nat×Nat)}{D:LB}{K:List He}{R:LB}{V:Nat->BA}{Q:Nat->Prop}(T:Tre (clk k) n Bs D V Q K R)(hD:D.length<=8796093022208){da:OA}{db dc:Nat}(hd:RdS w da db 0 D.length D)
  {ca:OA} {cb co cc:Nat} {l:List (Nat×BA)} (hc:RdK w ca cb co l.length l) (hl:l.length<=8796093022208) (hp:Asc (ixs l)) (hv:∀x∈vls l,x.size<2305843009213693952) (hQ:∀i,Q i -> ∃p,p<l.length∧l.getD p noC=(i,V i)) {mb:Nat} (hM:Mi w mb (fun h i=>if 0<=h then ixM Bs h.toNat i else none)) :
  SdP w k L (ixM Bs) D V Q (lsV k la L.length lc (some mb)) (prV' da D.length dc ca l.length cc (some mb)):=by
 have hCm:Cm w (some mb) (ixM Bs) := .inl ⟨mb,rfl,hM⟩;refine⟨ht,fun W h i hb hh hi=> ?_,fun W h i hb hh hi hq=> ?_,hsz,fun i hq=> ?_,T.lt,T.dsz,hm⟩
 ·exact QjK W (ht.next hb) k la lb lo lc L (hr.next hb (Lb _)) hsz hm (some mb) (ixM Bs) (hCm.next hb) h i hh hi _ rfl
 ·exact Qko W da db 0 dc D (hd.next hb (Lb _)) hD ca cb co cc l (hc.next hb) hl hp hv V (some mb) (ixM Bs) (hCm.next hb) h i hh (by have:=Qbs hi;omega) (T.lt h i) (fun h0 e=>hQ i (hq h0 e)) _ rfl
 ·obtain⟨p,h1,h2⟩:=hQ i hq;refine hv _ (List.mem_map.2 ⟨(i,V i),?_,rfl⟩)
  rw[<-h2,La,Ld h1];exact LN _
theorem QcV{k:Int}{L:LB}(hm:L.length<=5000)(hsz:∀s∈L,s.size<=140737488351232){l:List (Nat×BA)}{s:BA}{P:PV}{Bs:List (Nat×Nat)}{K:List He}{R:LB}{c1:BA}(A:Acc k L.length c1 l s P)(T:AccT k L.length c1 l P Bs K R)(hl:l.length<=8796093021952){W:World}(ht:Tb W){sa:OA}{sb sc:Nat}{da:OA}{db dc:Nat}(hF:RdF W sa sb sc da db dc P){la:OA}{lb lo lc:Nat}(hr:RdS W la lb lo L.length L){ca:OA}{cb co cc:Nat}(hc:RdK W ca cb co l.length l) :
  Calls prog 29 #[vP P.kd P.k P.old P.size (.slice sa P.S.length sc) (.slice da P.D.length dc),.slice la L.length lc,.slice ca l.length cc] W fun e w'=>e= .returned (pv (wk (clk k) L.length L (ixM Bs) P.D (vlC l) (Cv.dnL 41 0 L.length)))∧Below W.heap.size W w':=by
 have hlen:=T.len;rw[A.hk,A.size];refine QeE W P.kd k P.old L.length _ da P.D.length dc la L.length lc ca l.length cc Bs T.tre.fit (by omega) T.tre.nodup (fun W' hb=> ?_) _ (fun W' mb hb hM=> ?_)
 ·have:=T.call W' sa sb sc da db dc hm (hF.next hb)
  rwa [A.size] at this
 ·have S:=QdN (k:=k) (la:=la) (lc:=lc) (dc:=dc) (cc:=cc) (ht.next hb) (hr.next hb (Lb _)) hsz (by omega) T.tre (by rw[T.tre.len];omega) (hF.next hb).p.rd (hc.next hb) (by omega) T.asc (fun x hx=>by have:=A.hv x hx;omega) (fun i hi=>⟨_,Qk9 hi⟩) hM
  exact Qis S L.length (Lb _) _ rfl T.tre.vis _ rfl
structure ClmX(k:Int)(L:LB)(l:List (Nat×BA))(s:BA)(o:Nat)(c:BA)(r:Int)(T:Pq):Prop where
 ext:∀W la lb lo lc ca cb co cc,Tb W->RdS W la lb lo L.length L->L.length<=lc->RdK W ca cb co l.length l->Calls prog 9 #[.int .i64 k,.slice la L.length lc,.slice ca l.length cc,.string s] W fun e w'=>e= .returned (tri T)∧Below W.heap.size W w'
 light:∀W ca cb co cc,Tb W->RdK W ca cb co l.length l->Calls prog 7 #[.int .i64 k,.agg #[.int .u64 o,.string c],.slice ca l.length cc,.string s] W fun e w'=>e= .returned (.int .i64 r)∧Below W.heap.size W w'
 good:1<=k->k<=32->o=L.length∧c=rtD (clk k) L L.length
 no:r≠0->T=none
 bad:¬(1<=k∧k<=32)->r≠0
 yes:r=0->(1<=k∧k<=32) ∧ ∃P Bs K R,Acc k L.length (rtD (clk k) L L.length) l s P∧AccT k L.length (rtD (clk k) L L.length) l P Bs K R∧(soC L l->T=none)∧(¬soC L l->T=wk (clk k) L.length L (ixM Bs) P.D (vlC l) (Cv.dnL 41 0 L.length))
theorem Qjh(k:Int)(hk:1<=k∧k<=32)(L:LB)(hm:L.length<=5000)(hsz:∀s∈L,s.size<=140737488351232)(l:List (Nat×BA))(hl:l.length<=8796093021952)(s:BA)(hs:s.size<=281474976710656)(c:BA)(hc:rtD (clk k) L L.length=c)(r:Int)
  (h1:∀W ca cb co cc,Tb W->RdK W ca cb co l.length l->Calls prog 7 #[.int .i64 k,.agg #[.int .u64 L.length,.string c],.slice ca l.length cc,.string s] W fun e w'=>e= .returned (.int .i64 r)∧Below W.heap.size W w')
  (h2:r=0 -> ∃P,Acc k L.length c l s P):∃T,ClmX k L l s L.length c r T:=by
 have hcm:∀ {W la lb lo lc},Tb W->RdS W la lb lo L.length L->L.length<=lc->Hid (∀V,Below W.heap.size W V->Calls prog 26 #[.int .i64 k,.slice la L.length lc] V fun e w'=>e= .returned (.agg #[.int .u64 L.length,.string c])∧Below V.heap.size V w'):=fun {W la lb lo lc} ht hr hlc V hb=>QlL V (ht.next hb) k hk.1 hk.2 la lb lo lc L (hr.next hb (Lb _)) hsz (by omega) hlc c hc
 by_cases h0:r=0
 ·subst h0;obtain⟨P,A⟩:=h2 rfl;obtain⟨Bs,K,R,T⟩:=Qiv A;have hin:∀x∈l,x.1<L.length:=fun x hx=>(T.free x.1 (List.mem_map.2 ⟨x,hx,rfl⟩)).1
  have hl':l.length<=1099511627776:=by
   have h5:(ixs l).length<=L.length:=by
    have hb:∀i∈ixs l,i<L.length:=fun i hi=>(T.free i hi).1
    have:=Qhl T.asc hb;exact this
   rw[LI] at h5;omega
  by_cases hso:soC L l
  ·refine⟨none,fun W la lb lo lc ca cb co cc ht hr hlc hK=> ?_,fun W ca cb co cc ht hK=>h1 W ca cb co cc ht hK,fun _ _=>⟨rfl,hc.symm⟩,fun _=>rfl,fun h=>absurd hk h,fun _=>⟨hk,P,Bs,K,R,by rw[hc];exact A,by rw[hc];exact T,fun _=>rfl,fun h=>absurd hso h⟩⟩
   refine Qom W k la L.length lc ca l.length cc s L.length c (hcm ht hr hlc) (fun V hb=>h1 V ca cb co cc (ht.next hb) (hK.next hb)) (fun V hb=> ?_)
   exact Qb9 V ca cb co cc l (hK.next hb) hl' la lb lo lc L (hr.next hb (Lb _)) (by omega) hin true (LS hso)
  ·refine⟨wk (clk k) L.length L (ixM Bs) P.D (vlC l) (Cv.dnL 41 0 L.length),fun W la lb lo lc ca cb co cc ht hr hlc hK=> ?_,fun W ca cb co cc ht hK=>h1 W ca cb co cc ht hK,fun _ _=>⟨rfl,hc.symm⟩,fun h=>absurd rfl h,fun h=>absurd hk h,fun _=>⟨hk,P,Bs,K,R,by rw[hc];exact A,by rw[hc];exact T,fun h=>absurd h hso,fun _=>rfl⟩⟩
   refine QlQ W k la L.length lc ca l.length cc s L.length c (hcm ht hr hlc) P _ (fun V hb=>h1 V ca cb co cc (ht.next hb) (hK.next hb)) (fun V hb=> ?_) (fun V=>(Ju V s hs P A.hd).mono fun e w' ⟨sa,sb,sc,da,db,dc,h1,h2,_,h3⟩=>⟨sa,sb,sc,da,db,dc,h1,h2,h3⟩) (fun V sa sb sc da db dc hb hF=> ?_)
   ·exact Qb9 V ca cb co cc l (hK.next hb) hl' la lb lo lc L (hr.next hb (Lb _)) (by omega) hin false (LC hso)
   ·exact QcV hm hsz A T hl (ht.next hb) hF (hr.next hb (Lb _)) (hK.next hb)
 ·refine⟨none,fun W la lb lo lc ca cb co cc ht hr hlc hK=> ?_,fun W ca cb co cc ht hK=>h1 W ca cb co cc ht hK,fun _ _=>⟨rfl,hc.symm⟩,fun _=>rfl,fun h=>absurd hk h,fun h=>absurd h h0⟩
  exact Qje W k la L.length lc ca l.length cc s L.length c (hcm ht hr hlc) r h0 (fun V hb=>h1 V ca cb co cc (ht.next hb) (hK.next hb))
theorem Qfx(k:Int)(L:LB)(hm:L.length<=5000)(hsz:∀s∈L,s.size<=140737488351232)(l:List (Nat×BA))(hl:l.length<=8796093021952)(hv:∀x∈vls l,x.size<=9223372036854775807)(s:BA)(hs:s.size<=281474976710656):∃o c r T,ClmX k L l s o c r T:=by
 by_cases hk:1<=k∧k<=32
 ·obtain⟨c,hc⟩:∃c,rtD (clk k) L L.length=c:=⟨_,rfl⟩;obtain⟨r,h1,h2⟩:=Qa7 k L.length c l hl hv s hs;obtain⟨T,hT⟩:=Qjh k hk L hm hsz l hl s hs c hc r h1 h2;exact⟨_,_,r,T,hT⟩
 ·have hk':k<1∨32<k:=by omega
  obtain⟨r,h1,h2⟩:=Qa7 k 0 ⟨#[]⟩ l hl hv s hs;have h0:r≠0:=fun h=>by
   obtain⟨P,A⟩:=h2 h;exact hk ⟨A.k1,A.k2⟩
  refine⟨0,⟨#[]⟩,r,none,fun W la lb lo lc ca cb co cc ht hr hlc hK=> ?_,fun W ca cb co cc ht hK=>h1 W ca cb co cc ht hK,fun a b=>absurd ⟨a,b⟩ hk,fun _=>rfl,fun _=>h0,fun h=>absurd h h0⟩
  exact Qje W k la L.length lc ca l.length cc s 0 ⟨#[]⟩ (fun V hb=>QiW V k hk' la L.length lc (by omega)) r h0 (fun V hb=>h1 V ca cb co cc (ht.next hb) (hK.next hb))
theorem Qhy{k:Int}{L:LB}{l:List (Nat×BA)}{s:BA}{o:Nat}{c:BA}{T:Pq}(X:ClmX k L l s o c 0 T):(∀x∈l,x.1<L.length)∧(soC L l->T=none)∧(¬soC L l -> ∃q,T=some q∧Clx (clk k) q):=by
 obtain⟨_,P,Bs,K,R,A,Tr,h1,h2⟩:=X.yes rfl;refine⟨fun x hx=>(Tr.free x.1 (List.mem_map.2 ⟨x,hx,rfl⟩)).1,h1,fun hso=> ?_⟩
 rcases QcW A Tr with ⟨q,hq,hc⟩|h
 ·exact⟨q,by rw[h2 hso,hq],hc⟩
 ·exact absurd h hso
def Sz(N:Nat)(q:BA×BA):Prop:=q.1.size<=N∧q.2.size<=N
theorem Qhg{N:Nat}{a b:BA}{q:BA×BA}(h:un a b=some q)(ha:a.size<=N)(hb:b.size<=N):Sz N q:=by
 obtain⟨_,rfl⟩:=O6 h;exact⟨ha,hb⟩
theorem Qpz{N c:Nat}{L:LB}{M:Nat->Nat->Option Nat}{D:LB}{V:Nat->BA}(hN:100<=N)(hc:c<=32)(hM:∀h k j,M h k=some j->j<D.length)(hD:∀s∈D,s.size=c)(hL:∀i,(L.getD i ByteArray.empty).size+1<=N)(hV:∀i,(V i).size+1<=N):∀(h k:Nat) (q:BA×BA),fp c L M D V h k=some q->Sz N q:=by
 intro h
 induction h with
 | zero=>
  intro k q hf
  cases e:M 0 k with
  | some j=>rw[Qel e] at hf;cases hf
  | none=>
   rw[QaK e] at hf;exact Qhg hf (by rw[YN];have:=hL k;omega) (by rw[YN];have:=hV k;omega)
 | succ h ih=>
  intro k q hf
  cases e:M (h+1) k with
  | some j=>rw[Qel e] at hf;cases hf
  | none=>
   rw[QaL e] at hf
   rcases YS hf with hf|⟨_,hf⟩
   ·exact Qhg hf (by rw[YO,QG hc,QG hc];omega) (by rw[YO,Uq hc hM hD,Uq hc hM hD];omega)
   ·rcases YS hf with hf|⟨_,hf⟩
    ·exact ih _ _ hf
    ·exact ih _ _ hf
theorem QnG{N c:Nat}(hN:100<=N)(hc:c<=32):∀(P Q:LB),(∀s∈P,s.size<=32)->(∀s∈Q,s.size<=32) -> ∀q,bg c P Q=some q->Sz N q
 | [],_,_,_,q,h=>by rw[bg] at h;cases h;all_goals (intros;contradiction)
 | [_],_,_,_,q,h=>by rw[bg] at h;cases h;all_goals (intros;contradiction)
 | p::p2::P,[],_,_,q,h=>by rw[bg] at h;cases h;all_goals (intros;contradiction)
 | p::p2::P,[_],_,_,q,h=>by rw[bg] at h;cases h;all_goals (intros;contradiction)
 | p::p2::P,q::q2::Q,hP,hQ,r,h=>by
  have hP':∀s∈p2::P,s.size<=32:=fun s hs=>hP s (LR _ hs)
  have hQ':∀s∈q2::Q,s.size<=32:=fun s hs=>hQ s (LR _ hs)
  rw[bg] at h
  rcases YS h with h|⟨_,h⟩
  ·refine Qhg h ?_ ?_
   ·rw[JK];have h1:=hP p (by simp)
    have h2:=QW hc (Lb 32) _ hP';omega
   ·rw[JK];have h1:=hQ q (by simp)
    have h2:=QW hc (Lb 32) _ hQ';omega
  ·exact QnG hN hc _ _ hP' hQ' r h
theorem QpS{N c n:Nat}(hN:100<=N)(hc:c<=32){P Q:LB}(hP:∀s∈P,s.size<=32)(hQ:∀s∈Q,s.size<=32){q:BA×BA}(h:tp c n P Q=some q):Sz N q:=by
 rw[tp] at h
 rcases YS h with h|⟨_,h⟩
 ·refine Qhg h ?_ ?_
  ·rw[Jc];have:=QW hc (Lb 32) _ hP;omega
  ·rw[Jc];have:=QW hc (Lb 32) _ hQ;omega
 ·exact QnG hN hc P Q hP hQ q h
theorem QpV{N c n:Nat}{L:LB}{M:Nat->Nat->Option Nat}{D:LB}{V:Nat->BA}{B:List (Nat×Nat)}(hN:100<=N)(hc:c<=32)(hM:∀h k j,M h k=some j->j<D.length)(hD:∀s∈D,s.size=c)(hL:∀i,(L.getD i ByteArray.empty).size+1<=N)(hV:∀i,(V i).size+1<=N){q:BA×BA}(h:wk c n L M D V B=some q):Sz N q:=by
 unfold wk at h
 rcases YS h with h|⟨_,h⟩
 ·exact QpS hN hc (fun s hs=>by obtain⟨b,_,rfl⟩:=List.mem_map.1 hs;rw[QG hc];exact hc) (fun s hs=>by obtain⟨b,_,rfl⟩:=List.mem_map.1 hs;rw[Uq hc hM hD];exact hc) h
 ·obtain⟨b,_,hq⟩:=Qc8 h;exact Qpz hN hc hM hD hL hV _ _ q hq
theorem Ql4{L:LB}{N:Nat}(h:∀s∈L,s.size<=N)(i:Nat):(L.getD i ByteArray.empty).size<=N:=by
 by_cases hi:i<L.length
 ·exact h _ (QI hi)
 ·rw[La,NU (by omega)];exact Lm _
theorem Qpg{l:List (Nat×BA)}{N:Nat}(h:∀x∈vls l,x.size<=N)(i:Nat):(vlC l i).size<=N:=by
 unfold vlC
 by_cases hi:(ixs l).idxOf i<l.length
 ·refine h _ (List.mem_map.2 ⟨_,?_,rfl⟩)
  rw[La,Ld hi];exact LN _
 ·rw[La,NU (by omega)];exact Lm _
theorem Qfv{k:Int}{L:LB}(hsz:∀s∈L,s.size<=140737488351232){l:List (Nat×BA)}{s:BA}{o:Nat}{c:BA}{T:Pq}(X:ClmX k L l s o c 0 T):(∀x∈l,x.1<L.length)∧(soC L l->T=none)∧(¬soC L l -> ∃q,T=some q∧Clx (clk k) q∧Sz 1152921504606846000 q):=by
 obtain⟨h1,h2,h3⟩:=Qhy X;refine⟨h1,h2,fun hso=> ?_⟩
 obtain⟨q,hq,hc⟩:=h3 hso;refine⟨q,hq,hc,?_⟩
 obtain⟨_,P,Bs,K,R,A,Tr,_,h5⟩:=X.yes rfl;rw[h5 hso] at hq;exact QpV (by decide) (Qn k) Tr.tre.lt Tr.tre.dsz (fun i=>by have:=Ql4 hsz i;omega) (fun i=>by have:=Qpg A.hv i;omega) hq
abbrev An(w2:World)(f:Nat)(args:List Value)(v:Value):Prop := ∀W,Below w2.heap.size w2 W->Calls prog f args.toArray W fun e w'=>e= .returned v∧Below W.heap.size W w'
theorem QpW{w W1 w2:World}(ht:Tb w)(hb1:Below w.heap.size w W1){a p i kn:Nat}{v:Value}{K:LB}{D:St.DV}(h:LsT W1 w2 a p v kn i K D)(hi:i<=100)(ca:OA)(cb co cc:Nat)(l:List (Nat×BA))(hK:RdK w ca cb co l.length l)(hl:l.length<=8796093021952)(hv:∀x∈vls l,x.size<=9223372036854775807)(s:BA)(hs:s.size<=281474976710656) :
  ∃(va:OA) (vc vn:Nat) (c:BA) (r:Int) (T:Pq),v= .slice va vn vc∧vn<=100∧Below w.heap.size w w2 ∧
   An w2 6 [Zv a,.int .u64 vn] (.tuple #[.agg #[.int .u64 vn,.string c],.int .i64 0]) ∧
   An w2 7 [.int .i64 kn,.agg #[.int .u64 vn,.string c],.slice ca l.length cc,.string s] (.int .i64 r) ∧
   An w2 9 [.int .i64 kn,.slice va vn vc,.slice ca l.length cc,.string s] (tri T) ∧
   (r=0->(∀j,j<l.length->An w2 8 [Zv a,.int .u64 ((l.getD j noC).1:Int)] (.tuple #[.string (K.getD (l.getD j noC).1 ByteArray.empty),.int .i64 0]))∧(soC K l->T=none)∧(¬soC K l -> ∃q,T=some q∧Clx (clk (kn:Int)) q∧Sz 1152921504606846000 q)):=by
 obtain⟨hJ,hKi,hKs,hq,he,hac,k1,k2⟩:=h;have hb2:Below w.heap.size w w2:=Qa hb1 hJ.nl.below;have ht2:=ht.next hb2;obtain⟨va,bb,vc,q1,q2,q3,q4⟩:=QJ hJ.own (fun s hs=>by have:=hKs s hs;omega)
 obtain⟨U,hlg,hU,_⟩:=hJ.nl;have hf:Fit kn 134217728 3000 K:=QjO k1 k2 (by omega) hKs
 have hz:(St.sA kn (itL kn K)).ends.length=K.length:=QkH hf;have hc:clk (kn:Int)=kn:=by have:=Ut (k:=(kn:Int)) (by omega) (by omega);omega
 have key:∀i,i<K.length->K[i]? = some (K.getD i ByteArray.empty):=fun i hi=>by rw[La,Ld hi];rfl
 have hsz:∀s∈K,s.size<=140737488351232:=fun s hs=>by have:=hKs s hs;omega
 obtain⟨o,c,r,T,X⟩:=Qfx (kn:Int) K (by omega) hsz l hl hv s hs
 obtain⟨rfl,rfl⟩:=X.good (by omega) (by omega)
 refine⟨va,vc,K.length,_,r,T,q1,by omega,hb2,fun W hW=>Qex W (ht2.next hW) (hlg.next hW) K.length (Lb _) _ (by rw[hc];rfl),fun W hW=>X.light W ca cb co cc (ht2.next hW) (hK.next (Qa hb2 hW)),fun W hW=>X.ext W va bb 0 vc ca cb co cc (ht2.next hW) (q2.next hW (Lb _)) q3 (hK.next (Qa hb2 hW)),fun h0=> ?_⟩
 subst h0;obtain⟨h1,h2,h3⟩:=Qfv hsz X;refine⟨fun j hj W hW=> ?_,h2,h3⟩
 have hx:=h1 (l.getD j noC) (by rw[La,Ld hj];exact LN _)
 exact QjL W (ht2.next hW) (hlg.next hW) hz (l.getD j noC).1 (by omega) _ 0 ((hf.has hq.down he).get rfl (key _ hx))
theorem ck1(w:World)(d:BA)(T:Nat):(w.alloc (.cells #[.string d] T)).cell? ⟨w.heap.size,0,none⟩=some (.string d):=cell_of_one (Lr w _)
theorem ck2(w:World)(d:BA)(T:Nat)(o:Obj):((w.alloc (.cells #[.string d] T)).alloc o).cell? ⟨w.heap.size,0,none⟩=some (.string d) :=
 cell_of_one (((bal (Lc _ (w.alloc (.cells #[.string d] T))) o).block w.heap.size (by rw[LK];omega)).trans (Lr w _))
theorem ck3(w:World)(d:BA)(T:Nat)(o:Obj):((w.alloc o).alloc (.cells #[.string d] T)).cell? ⟨w.heap.size+1,0,none⟩=some (.string d):=by
 have:=ck1 (w.alloc o) d T
 rwa [LK] at this
theorem QnE{W w1:World}{p:Addr}{v:Value}(hb:Below W.heap.size W w1)(h:W.cell? p=some v):w1.cell? p=some v:=(hb.cell (Ll W _ h)).trans h
theorem QnM(W:World)(hr:Tr W)(g:Nat)(t:BA)(hs:t.size<1152921504606846976)(hc:W.cell? ⟨g,0,none⟩=some (.string t))(r:BA)(hq:JG RS (tB t)=r):Calls prog 10 #[.slice (Zp g) 1 1] W fun e w'=>e= .returned (.string r)∧Below W.heap.size W w':=by
 have e:Qj [t]=tB t:=by simp[Qj]
 have hrg:W.rangeAt g 0 ([t].map Value.string):=fun j v hj=>by
  match j,hj with
  | 0,hj=>simp at hj;subst hj;exact hc
 have:=QcD W (Zp g) g 0 1 1 [t] rfl (fun _=>rfl) hrg (by decide) RS Jp hr.rr hr.iv (by rw[e,Yc];exact hs)
 rw[e,hq] at this;exact this
theorem QnP{W:World}{b:Nat}{x y:Value}{T:TypeId}(h:W.heap[b]? = some (.cells #[x,y] T (0,0))):W.cell? ⟨b,0,none⟩=some x∧W.cell? ⟨b,1,none⟩=some y :=
 ⟨by rw[cell_of_row W b 0 _ _ (0,0) h];rfl,by rw[cell_of_row W b 1 _ _ (0,0) h];rfl⟩
theorem QkO{L:LB}{l:List (Nat×BA)}{j:Nat}(hj:j<l.length):soC L (l.take (j+1))↔soC L (l.take j)∧L.getD (l.getD j noC).1 ByteArray.empty=(l.getD j noC).2:=by
 have e:l.take (j+1)=l.take j++[l.getD j noC]:=by rw[LQ hj,La,Ld hj];rfl
 rw[e];unfold soC
 constructor
 ·intro h;exact⟨fun c hc=>h c (NH _ hc),h _ (Id _ (by simp))⟩
 ·rintro⟨h1,h2⟩ c hc
  rcases List.mem_append.1 hc with hc|hc
  ·exact h1 c hc
  ·rw[IM] at hc;subst hc;exact h2
theorem QkP(L:LB)(l:List (Nat×BA)):decide (soC L (l.take 0))=true:=LS fun c hc=>by rw[Ij] at hc;cases hc
theorem Qfc(w:World)(ht:Tb w)(hT:Tr w)(k:Int)(ao:OA)(b off len cap:Nat)(xs:LB)(hr:RdS w ao b off len xs)(hmx:len<=9223372036854775807)(ca:OA)(cb co cc:Nat)(l:List (Nat×BA))(hK:RdK w ca cb co l.length l)(hl:l.length<=8796093021952)(hv:∀x∈vls l,x.size<=9223372036854775807)(s:BA)(hs:s.size<=281474976710656) :
  Calls prog 3 #[.int .i64 k,.slice ao len cap,.agg #[.slice ca l.length cc,.string s]] w fun e w'=>e= .returned (.bool true)∧Below w.heap.size w w':=by
 obtain⟨w0,hw0⟩:∃W,w.alloc (.cells #[.slice ca l.length cc,.string s] 25)=W:=⟨_,rfl⟩;have hb0:Below w.heap.size w w0:=by rw[<-hw0];exact bal (Lc _ _) _
 have k0:w0.heap[w.heap.size]? = some (.cells #[.slice ca l.length cc,.string s] 25 (0,0)):=by rw[<-hw0];exact Lr w _
 have z0:=(Array.getElem?_eq_some_iff.1 k0).1
 obtain⟨b0,hbe⟩:∃b,w.heap.size=b:=⟨_,rfl⟩;have HC:Hid (∀W,Below w0.heap.size w0 W->(W.cell? ⟨b0,0,none⟩=some (.slice ca l.length cc)∧W.cell? ⟨b0,1,none⟩=some (.string s))∧RdK W ca cb co l.length l):=fun W hW=>by
  have q:=(hW.block _ z0).trans k0;rw[hbe] at q;exact⟨QnP q,hK.next (Qa hb0 hW)⟩
 have HBg:Hid (Calls prog 4 #[] w0 fun e w'=>e= .returned (.bool true)∧Below w0.heap.size w0 w'):=Qhn w0 (ht.next hb0) (hT.next hb0)
 have HW0:=Qc hw0;have HB0:=Qc hbe;have HU0:=Qc hb0
 by_cases hk:1<=k∧k<=32
 ·obtain⟨kn,rfl⟩:∃n:Nat,k=(n:Int):=⟨k.toNat,by omega⟩
  have y1:¬(kn:Int)<1:=by omega
  have y2:¬(32:Int)<(kn:Int):=by omega
  have HSt:Hid (∀W,Below w0.heap.size w0 W->Calls prog 5 #[.int .i64 kn,.slice ao len cap] W fun e w'=> ∃p a v i K D,e= .returned (.tuple #[Zv p,Zv a,v])∧Hid (i<=100∧LsT W w' a p v kn i K D)):=fun W hW=>
   (QbW W (ht.next (Qa hb0 hW)) kn (by omega) (by omega) ao b off len cap xs (hr.next (Qa hb0 hW) (Lb _)) hmx).mono fun e w' z=>by
    obtain⟨p,a,v,i,D,z1,z2,_,_,z5⟩:=z;exact⟨p,a,v,i,_,D,z1,z2,z5⟩
  have HT0:Hid (Tb w∧Tr w∧RdK w ca cb co l.length l∧l.length<=8796093021952∧(∀x∈vls l,x.size<=9223372036854775807)∧s.size<=281474976710656∧1<=kn∧kn<=32):=⟨ht,hT,hK,hl,hv,hs,by omega,by omega⟩
  clear ht hT hr hK hw0 hb0 k0 z0 hbe hk hl hmx hv hs
  go_enter func3,ntmps3
  go_upto_region 1 with (fail)
  rw[HW0.out,HB0.out]
  go_upto_region 8 with (first
   | (go_at_call 4;(with_reducible refine HBg.out.mono ?_);rintro e w1 ⟨rfl,u1⟩)
   | (go_at_call 5;(with_reducible refine(HSt.out _ u1).mono ?_);rintro e w2 ⟨p,a,v,i,K,D,rfl,HL⟩))
  obtain⟨ht,hT,hK,hl,hv,hs,k1,k2⟩:=HT0.out;have hbz:Below w0.heap.size w0 w2:=Qa u1 HL.out.2.below;obtain⟨va,vc,vn,c,r,T,rfl,hvn,hb2,rN,rL,rE,rZ⟩:=QpW ht (Qa HU0.out u1) HL.out.2 HL.out.1 ca cb co cc l hK hl hv s hs;have HN:=Qc rN;have HLt:=Qc rL;have HE:=Qc rE;have HZ:=Qc rZ;have HB2:=Qc hb2;have HTr:=Qc (hT.next hb2);have HKn:Hid (1<=kn∧kn<=32):=⟨k1,k2⟩;have HC2:Hid (∀W,Below w2.heap.size w2 W->(W.cell? ⟨b0,0,none⟩=some (.slice ca l.length cc)∧W.cell? ⟨b0,1,none⟩=some (.string s))∧RdK W ca cb co l.length l):=fun W hW=>HC.out W (Qa hbz hW)
  have ew:IntKind.u64.wrap (vn:Int)=(vn:Int):=by rw[IntKind.wrap_u64];omega
  have zl:(l.length:Int)<=8796093021952:=by omega
  clear ht hT hK hl hv hs hbz rN rL rE rZ hb2 HC HT0 HL HSt HBg u1 HU0 y1 y2 k1 k2
  go_upto_region 9 with (go_at_call 6;(with_reducible refine(HN.out _ (Lc _ _)).mono ?_);rintro e w3 ⟨rfl,u3⟩)
  obtain⟨w4,hw4⟩:∃W,w3.alloc (.cells #[.int .u64 vn,.string c] 33)=W:=⟨_,rfl⟩;have u4:Below w2.heap.size w2 w4:=by rw[<-hw4];exact bal u3 _
  have k4:w4.heap[w3.heap.size]? = some (.cells #[.int .u64 vn,.string c] 33 (0,0)):=by rw[<-hw4];exact Lr w3 _
  rw[hw4];obtain⟨e0,e1⟩:=QnP k4;generalize w3.heap.size=q4 at *;obtain⟨⟨c0,c1⟩,_⟩:=HC2.out w4 u4;clear hw4 u3 k4 ew HN
  by_cases h0:r=0
  ·subst h0;obtain⟨hG,hS1,hS2⟩:=HZ.out rfl;have HG:=Qc hG;have HS1:=Qc hS1;have HS2:=Qc hS2;clear HZ hG hS1 hS2
   go_upto_region 12 with (go_at_call 7;(with_reducible refine(HLt.out _ u4).mono ?_);rintro e w5 ⟨rfl,u5⟩)
   have HU5:=Qc (Qa u4 u5);clear c0 c1 e0 e1 u4 u5 HLt;go_wp2
   go_loopg [12,13] l.length (fun g b i wr=> ∃j:Nat,g=l.length-j∧j<=l.length∧i= .int .i64 j∧b= .bool (decide (soC K (l.take j)))∧Hid (Below w2.heap.size w2 wr))
   case atStart=>go_light;exact⟨0,rfl,Lm _,rfl,by rw[QkP],HU5⟩
   case round=>
    clear HU5;obtain⟨j,rfl,hj,rfl,rfl,HI⟩:=hrel;obtain⟨⟨c0,c1⟩,hkd⟩:=HC2.out wr HI.out;obtain⟨v,hvd⟩:∃v,decide (soC K (l.take j))=v:=⟨_,rfl⟩
    rw[hvd]
    by_cases hlt:j<l.length
    ·have y0:(0:Int)<=(j:Int):=Lf _;have y1:(j:Int)<(l.length:Int):=by omega
     obtain rfl:=hkd.ptr (by omega)
     obtain⟨d0,d1⟩:=hkd.at hlt;have hget:=HG.out j hlt wr HI.out;have hstep:=QkO (L:=K) hlt;obtain⟨n,ha⟩:∃n,(l.getD j noC).1=n:=⟨_,rfl⟩;obtain⟨x,hx⟩:∃x,(l.getD j noC).2=x:=⟨_,rfl⟩;rw[ha] at d0 hstep hget;rw[hx] at d1 hstep;obtain⟨y,hy⟩:∃y,K.getD n ByteArray.empty=y:=⟨_,rfl⟩;rw[hy] at hget hstep;have HGe:=Qc hget;have HAf:Hid (∀W,Below wr.heap.size wr W->W.cell? ⟨b0,0,none⟩=some (.slice (some ⟨cb,co,none⟩) l.length cc)∧W.cell? ⟨cb,co+j*2+1,none⟩=some (.string x)∧Hid (Below w2.heap.size w2 W)):=fun W hW=>by
      obtain⟨⟨a0,_⟩,h2⟩:=HC2.out W (Qa HI.out hW);have:=(h2.at hlt).2;rw[hx] at this;exact⟨a0,this,Qa HI.out hW⟩
     have HNj:Hid (j+1<=l.length):=hlt;have HV:=Qc hvd;have HSt:=Qc hstep;have ew2:IntKind.i64.wrap ((j:Int)+1)=(j:Int)+1:=by rw[LE];omega
     clear hkd hget hstep hvd ha hx hy hlt hj HI HG HS1 HS2
     go_upto_region 16 with (go_at_call 8;(with_reducible refine HGe.out.mono ?_);rintro e w6 ⟨rfl,u6⟩)
     obtain⟨c0,d1,U6⟩:=HAf.out w6 u6;clear HAf HGe u6 c1 d0
     cases v with
     | false=>
      have HNx:Hid (decide (soC K (l.take (j+1)))=false):=LC fun h=>(of_decide_eq_false HV.out) (HSt.out.1 h).1
      go_wp2
      go_roundg (l.length-(j+1))
      case rel=>go_light;exact⟨j+1,rfl,HNj.out,by go_num,by rw[HNx.out],U6⟩
      case measure=>go_light;have:=HNj.out;omega
     | true=>
      by_cases he:y=x
      ·have HNx:Hid (decide (soC K (l.take (j+1)))=true):=LS (HSt.out.2 ⟨NG HV.out,he⟩)
       subst he;have hyy:(y.toList == y.toList)=true:=by simp
       go_wp2
       go_roundg (l.length-(j+1))
       case rel=>go_light;exact⟨j+1,rfl,HNj.out,by go_num,by rw[HNx.out],U6⟩
       case measure=>go_light;have:=HNj.out;omega
      ·have HNx:Hid (decide (soC K (l.take (j+1)))=false):=LC fun h=>he (HSt.out.1 h).2
       have hzb:=UE he;have hz:=OJ he;clear he;go_wp2
       go_roundg (l.length-(j+1))
       case rel=>go_light;exact⟨j+1,rfl,HNj.out,by go_num,by rw[HNx.out],U6⟩
       case measure=>go_light;have:=HNj.out;omega
    ·obtain rfl:j=l.length:=by omega
     have hz1:¬(l.length:Int)<(l.length:Int):=by omega
     rw[NA] at hvd
     cases v with
     | true=>
      have HZ1:=Qc (Qa HB2.out HI.out);clear hvd HS1 HS2 HG hlt hj hkd;go_wp2
      go_ret
      exact⟨rfl,HZ1.out⟩
     | false=>
      obtain⟨q,rfl,hq1,hq2⟩:=HS2.out (of_decide_eq_false hvd);obtain⟨qa,qb⟩:=q;obtain⟨hne,hd⟩:=hq1;obtain⟨hs1,hs2⟩:=hq2;simp only at hne hd hs1 hs2;obtain⟨x,hx⟩:∃x,JG RS (tB qa)=x:=⟨_,rfl⟩;obtain⟨y,hy⟩:∃y,JG RS (tB qb)=y:=⟨_,rfl⟩;have hx32:x.size=32:=by rw[<-hx];exact UP _ _
      have hy32:y.size=32:=by rw[<-hy];exact UP _ _
      have hck:clk (kn:Int)=kn:=by have:=Ut (k:=(kn:Int)) (by have:=HKn.out;omega) (by have:=HKn.out;omega);omega
      have HXY:Hid (x.extract 0 kn=y.extract 0 kn):=by
       rw[dg,dg,hx,hy,hck] at hd;exact hd
      have HEx:Hid (Calls prog 9 #[.int .i64 kn,.slice va vn vc,.slice ca l.length cc,.string s] wr fun e w'=>e= .returned (.tuple #[.string qa,.string qb,.bool true])∧Below wr.heap.size wr w'):=HE.out wr HI.out
      have HA0:Hid (∀W g,Below wr.heap.size wr W->W.cell? ⟨g,0,none⟩=some (.string qa)->Calls prog 10 #[.slice (Zp g) 1 1] W fun e w'=>e= .returned (.string x)∧Below W.heap.size W w'):=fun W g hW hc=>QnM W (HTr.out.next (Qa HI.out hW)) g qa (by omega) hc x hx
      have HB0':Hid (∀W g,Below wr.heap.size wr W->W.cell? ⟨g,0,none⟩=some (.string qb)->Calls prog 10 #[.slice (Zp g) 1 1] W fun e w'=>e= .returned (.string y)∧Below W.heap.size W w'):=fun W g hW hc=>QnM W (HTr.out.next (Qa HI.out hW)) g qb (by omega) hc y hy
      have hz:=OJ hne;have hzb:=UE hne;have z1:(0:Int)<=(kn:Int):=Lf _;have z2:(kn:Int)<=32:=by have:=HKn.out;omega
      have HZ1:=Qc (Qa HB2.out HI.out);clear hx hy hne hd hs1 hs2 hck hvd HS1 HS2 HG hlt hj hkd HE HKn HTr HB2 HI
      go_upto_region 20 with (go_at_call 9;(with_reducible refine HEx.out.mono ?_);rintro e w7 ⟨rfl,u7⟩)
      have HA:Hid (∀W g,Below w7.heap.size w7 W->W.cell? ⟨g,0,none⟩=some (.string qa)->Calls prog 10 #[.slice (Zp g) 1 1] W fun e w'=>e= .returned (.string x)∧Below W.heap.size W w'):=fun W g hW hc=>HA0.out W g (Qa u7 hW) hc
      have HB:Hid (∀W g,Below w7.heap.size w7 W->W.cell? ⟨g,0,none⟩=some (.string qb)->Calls prog 10 #[.slice (Zp g) 1 1] W fun e w'=>e= .returned (.string y)∧Below W.heap.size W w'):=fun W g hW hc=>HB0'.out W g (Qa u7 hW) hc
      have HZ7:=Qc (Qa HZ1.out u7);clear HA0 HB0' HZ1 u7 c0 c1 HEx
      go_region_held3 (fun _=>True) (trivial) (first
       | (go_at_call 10;first
         | (refine(HA.out _ _ (by repeat (first|with_reducible exact Lc _ _|with_reducible exact hb1'|refine NF ?_|refine bal ?_ _)) (by first|exact ck1 _ _ _|exact ck2 _ _ _ _|exact ck3 _ _ _ _)).mono ?_;rintro e w8 ⟨rfl,hb1⟩;have hb1':Below w7.heap.size w7 w8:=Qa (by repeat (first|with_reducible exact Lc _ _|with_reducible exact hb1'|refine NF ?_|refine bal ?_ _)) hb1)
         | (refine(HB.out _ _ (by repeat (first|with_reducible exact Lc _ _|with_reducible exact hb1'|refine NF ?_|refine bal ?_ _)) (by first|exact ck1 _ _ _|exact QnE hb1 (ck2 _ _ _ _)|exact QnE hb1 (ck3 _ _ _ _))).mono ?_;rintro e w9 ⟨rfl,hb2⟩)))
      all_goals
       have hx:=HXY.out;rw[hx];go_wp2
       go_ret
       exact⟨by simp,Qa HZ7.out (Qa (by repeat (first|with_reducible exact hb1'|refine bal ?_ _)) hb2)⟩
  ·have hr0:(r != 0)=true:=by simpa using h0
   have HZ1:=Qc (Qa HB2.out u4);clear h0 HZ HE
   go_wp2_with (go_at_call 7;(with_reducible refine(HLt.out _ u4).mono ?_);rintro e w5 ⟨rfl,u5⟩)
   go_ret
   exact⟨rfl,Qa HZ1.out u5⟩
 ·have hk2:k<1∨(¬k<1∧32<k):=by omega
  clear HC ht hT hr hK hw0 hb0 k0 z0 hbe hk
  rcases hk2 with h1|⟨h1,h2⟩
  all_goals
   go_enter func3,ntmps3
   go_upto_region 1 with (fail)
   rw[HW0.out,HB0.out]
   go_wp2_with (go_at_call 4;(with_reducible refine HBg.out.mono ?_);rintro e w1 ⟨rfl,u1⟩)
   go_ret
   exact⟨rfl,Qa HU0.out u1⟩
theorem Qno{a:Int}(wf:(Lit.int .u64 a).wf=true):∃n:Nat,a=(n:Int)∧n<18446744073709551616:=by
 have:=bounds_u64 wf;exact⟨a.toNat,by omega,by omega⟩
end Go.Proofs.YtoblgjledefdbabGreatDoor
