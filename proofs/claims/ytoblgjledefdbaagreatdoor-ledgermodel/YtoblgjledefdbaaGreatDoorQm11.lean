/- Own work. -/
import Derived.Shelf.Sort.Plain
import Derived.Shelf.Slices.In.SortNone
import Derived.Sort.OwnSorted
import Derived.Test.YtoblgjledefdbaaGreatDoorQm10
set_option maxRecDepth 100000
set_option maxHeartbeats 1000000
namespace Go.Proofs.YtoblgjledefdbaaGreatDoor
open Go.RowKit
open Go.Proofs.Tryz
namespace St
theorem Qd{p:Prop}(h:p):Hid p:=h
section
variable {w W:World} {p m:Nat} {R:List UInt8->FR} {ka:OA} {kb ko kc:Nat} {D:DV}
theorem QjF(w:World)(h:Dk w p m R ka kb ko kc D none):Calls prog 15 #[.pointer (some ⟨p,0,none⟩)] w fun e w'=>e = .returned (.bool D.down)∧w'=w:=by
 obtain⟨c0,c1,c2,c3,c4,c5,c6⟩:=h.cells;clear h
 go_enter func15,ntmps15;go_wp2
 go_ret
 exact⟨rfl,rfl⟩
theorem QbZ(w:World)(h:Dk w p m R ka kb ko kc D none)(s:BA)(hs:s.size<=maxLen)(n:Nat)(hn:Hid ((if D.down then 0 else (Qe D.L s.data.toList).now.length)=n)) :
  Calls prog 151 #[.pointer (some ⟨p,0,none⟩),.string s] w fun e w'=>e = .returned (.int .i64 (n:Int))∧w'=w:=by
 obtain⟨c0,c1,c2,c3,c4,c5,c6⟩:=h.cells;obtain⟨r,hl,_⟩:=h.look s hs;have xB:=hl w rfl;have xC:=Qdd
 cases hd:D.down
 ·have xA:(Qe D.L s.data.toList).now.length=n:=by have:=hn.out;simpa [hd] using this
  simp only[Y6,fv,xA] at xB;rw[hd] at c6;clear h hd hl hn xA
  go_enter func151,ntmps151;go_wp2
  go_ret
  exact⟨rfl,rfl⟩
 ·have xA:0=n:=by have:=hn.out;simpa [hd] using this
  subst xA;rw[hd] at c6;clear h hd hl hn xB
  go_enter func151,ntmps151;go_wp2
  go_ret
  exact⟨rfl,rfl⟩
theorem Dk.re{ex:Option (List UInt8)}(h:Dk w p m R ka kb ko kc D ex)(hu:Upo (fun x=>x=p) w W){D':DV}(hL:D'.L=D.L){ka':OA}{kc':Nat}
  (hblk:W.heap[p]? = some (.cells #[.int .i64 (D'.free:Int),.map (some m),.int .i64 (D'.acts:Int),.int .i64 D'.fa,.int .i64 D'.fk,.slice ka' D'.ks.length kc',.bool D'.down] 98 (0,0)))
  (hk:(D'.ks=D.ks∧ka'=ka)∨D'.ks=[]) (fr:D'.free<=9223372036854775807) (ac:D'.acts<=4611686018427387904) (ft:D'.fk=0∨(1<=D'.fk∧D'.fk<=5∧1<=D'.fa∧D'.fa<=9223372036854775807)):Dk W p m R ka' kb ko kc' D' ex:=by
 have ky : ∀x,Ty w x 5->W.heap[x]? = w.heap[x]? := fun x hx=>hu.block x hx.lt (h.other hx).1
 have kk:0<D.ks.length->W.heap[kb]? = w.heap[kb]? := fun h0=>hu.block kb (h.kt h0).lt (h.kbp h0).1
 refine⟨hblk,by rw[hL];exact h.mp.same (hu.block m h.mp.lt fun e=>h.pm e.symm),by rw[hL];exact h.ord,by rw[hL];exact fun s hs he=>(h.fil s hs he).same fun x hx=>ky x (h.low s hs x hx),by rw[hL];exact fun s hs x hx=>(h.low s hs x hx).same (ky x (h.low s hs x hx)),by rw[hL];exact h.apart,by rw[hL];exact h.nm,by rw[hL];exact h.cnt,?_,?_,?_,fr,ac,ft⟩
 ·rcases hk with ⟨e1,e2⟩|e1
  ·rw[e1,e2];exact h.kp.same kk
  ·rw[e1];exact JU _ _ _ _
 ·rcases hk with ⟨e1,e2⟩|e1
  ·rw[e1];exact fun h0=>(h.kt h0).same (kk h0)
  ·rw[e1];intro h0;simp at h0
 ·rcases hk with ⟨e1,e2⟩|e1
  ·rw[e1];exact h.kl
  ·rw[e1];simp
def Yt(D:DV):DV×Int×List Bool:=if D.fk=0 then (D,0,[]) else if 1<D.fa then ({ D with fa:=D.fa - 1 },0,[]) else ({ D with fa:=0,fk:=0,ks:=[] },D.fk,D.ks)
def QaI(a k:Int)(ka:OA)(n kc:Nat):Value := .agg #[.int .i64 a,.int .i64 k,.slice ka n kc]
theorem Qmh(w:World)(h:Dk w p m R ka kb ko kc D none):Calls prog 329 #[.pointer (some ⟨p,0,none⟩)] w fun e w' => ∃ka' kc' qa qc x,e = .returned (QaI x (Yt D).2.1 qa (Yt D).2.2.length qc)∧Dk w' p m R ka' kb ko kc' (Yt D).1 none∧RdL w' qa kb ko (Yt D).2.2∧Upo (fun x=>x=p) w w':=by
 have xF:=h.lt (.inl rfl);have HH:Hid (Dk w p m R ka kb ko kc D none):=h;obtain⟨w1,xH⟩:=Ze (w.alloc (.cells #[.int .i64 0,.int .i64 0,.slice none 0 0] 37));have HW:Hid (w.alloc (.cells #[.int .i64 0,.int .i64 0,.slice none 0 0] 37)=w1):=xH;have hb:Below w.heap.size w w1:=by rw[<-xH];exact bal (Lb _ _) _
 have k1:w1.heap[w.heap.size]? = some (.cells #[.int .i64 0,.int .i64 0,.slice none 0 0] 37 (0,0)):=by rw[<-xH];exact Yq _ _
 have h1:=h.next hb;obtain⟨c0,c1,c2,c3,c4,c5,c6⟩:=h1.cells;have fz:=fun j=>h1.frz j
 have fy:=fun j=>frozen_of_row w1 w.heap.size j _ _ k1
 obtain⟨b0,b1,b2⟩:=Qs k1;have HB:Hid (Below w.heap.size w w1∧Dk w1 p m R ka kb ko kc D none∧p<w.heap.size∧w1.heap[w.heap.size]? = some (.cells #[.int .i64 0,.int .i64 0,.slice none 0 0] 37 (0,0))):=⟨hb,h1,xF,k1⟩;have ft:=h.ft;clear h hb h1 k1 xH xF
 by_cases hk:D.fk=0
 ·have e1:Yt D=(D,0,[]):=by rw[Yt,Lk hk]
  rw[e1];rw[hk] at c4;clear hk e1 ft
  go_enter func329,ntmps329
  go_upto_region 1 with (fail)
  rw[HW.out];go_wp2;obtain⟨w5,xA⟩:=Ze (((w1.setCell ⟨w.heap.size,0,none⟩ (.int .i64 0)).setCell ⟨w.heap.size,1,none⟩ (.int .i64 0)).setCell ⟨w.heap.size,2,none⟩ (.slice none 0 0));have q:=Qs (O8 HB.out.2.2.2 (.int .i64 0) (.int .i64 0) (.slice none 0 0));rw[xA] at q;rw[xA];obtain⟨s0,s1,s2⟩:=q;have xK:Below w.heap.size w w5:=by
   rw[<-xA];exact((HB.out.1.setCell (p:=⟨w.heap.size,0,none⟩) (La _) _).setCell (p:=⟨w.heap.size,1,none⟩) (La _) _).setCell (p:=⟨w.heap.size,2,none⟩) (La _) _
  refine Lv (v:=QaI 0 0 none 0 0) (by simp[results,results329,go_sem,QaI,s0,s1,s2]) rfl ⟨ka,kc,none,0,0,rfl,HH.out.next xK,JU _ _ _ _,Upo.of xK⟩
 ·have xS:(D.fk == 0)=false:=by simpa using hk
  obtain⟨f1,f2,f3,f4⟩:=ft.resolve_left hk;have e0:IntKind.i64.wrap (D.fa - 1)=D.fa - 1:=by rw[Lr];omega
  obtain⟨y,hy⟩:=Ze (D.fa - 1);rw[show(IntKind.i64.wrap (D.fa - 1)=D.fa - 1)↔(IntKind.i64.wrap (D.fa - 1)=y) by rw[hy]] at e0
  obtain⟨w2,xB⟩:=Ze (w1.setCell ⟨p,3,none⟩ (.int .i64 y));have xJ:Hid (w1.setCell ⟨p,3,none⟩ (.int .i64 y)=w2):=xB;have j2:w2.heap[p]? = some (.cells #[.int .i64 (D.free:Int),.map (some m),.int .i64 (D.acts:Int),.int .i64 y,.int .i64 D.fk,.slice ka D.ks.length kc,.bool D.down] 98 (0,0)):=by
   rw[<-xB];exact Lp w1 p 3 _ _ _ HB.out.2.1.blk
  have xC:Upo (fun x=>x=p) w w2:=by rw[<-xB];exact(Upo.of HB.out.1).set p 3 _ (.inl rfl)
  have k2:w2.heap[w.heap.size]? = some (.cells #[.int .i64 0,.int .i64 0,.slice none 0 0] 37 (0,0)):=by
   rw[<-xB];exact(Below.heap_setCell _ _ _ _ (by have:=HB.out.2.2.1;show w.heap.size≠p;omega)).trans HB.out.2.2.2
  obtain⟨b0,b1,b2⟩:=Qs k2;have xQ:=fun j=>frozen_of_row w2 w.heap.size j _ _ k2
  have xR:=fun j=>frozen_of_row w2 p j _ _ j2
  have d3:w2.cell? ⟨p,3,none⟩=some (.int .i64 y):=by rw[cell_of_row w2 p 3 _ _ (0,0) j2];rfl
  have d4:w2.cell? ⟨p,4,none⟩=some (.int .i64 D.fk):=by rw[cell_of_row w2 p 4 _ _ (0,0) j2];rfl
  have d5:w2.cell? ⟨p,5,none⟩=some (.slice ka D.ks.length kc):=by rw[cell_of_row w2 p 5 _ _ (0,0) j2];rfl
  have HJ:Hid (w2.heap[p]? = some (.cells #[.int .i64 (D.free:Int),.map (some m),.int .i64 (D.acts:Int),.int .i64 y,.int .i64 D.fk,.slice ka D.ks.length kc,.bool D.down] 98 (0,0))∧Upo (fun x=>x=p) w w2∧w2.heap[w.heap.size]? = some (.cells #[.int .i64 0,.int .i64 0,.slice none 0 0] 37 (0,0))∧p<w.heap.size∧w2.heap.size=w.heap.size+1):=⟨j2,xC,k2,HB.out.2.2.1,by rw[<-xB,<-HW.out];simp⟩
  clear xB j2 xC k2
  by_cases hy0:0<y
  ·have e1:Yt D=({ D with fa:=y },0,[]):=by rw[Yt,Le hk,Lk (by omega),hy]
   rw[e1];have HD:Hid (∀W,Below w2.heap.size w2 W∨(Upo (fun x=>x=w.heap.size) w2 W)->Dk W p m R ka kb ko kc { D with fa:=y } none∧Upo (fun x=>x=p) w W):=fun W hW=>by
    have hu:Upo (fun x=>x=p) w W:=HJ.out.2.1.trans (T:=fun x=>x=w.heap.size) (hW.elim (fun q=>Upo.of q) id) (fun b hb e=>by omega)
    refine⟨HH.out.re (D' := { D with fa:=y }) hu rfl ?_ (.inl ⟨rfl,rfl⟩) HH.out.fr HH.out.ac (.inr ⟨f1,f2,by show 1<=y;omega,by show y<=_;omega⟩),hu⟩
    refine Eq.trans ?_ HJ.out.1
    rcases hW with q|q
    ·exact q.block p (by have:=HJ.out.2.2.2;omega)
    ·exact q.block p (by have:=HJ.out.2.2.2;omega) (fun e=>by have:=HJ.out.2.2.2.1;omega)
   have xN : ¬D.fk=0:=hk;clear e1 f1 f2 f3 f4 hy ft hk HB
   go_enter func329,ntmps329
   go_upto_region 1 with (fail)
   rw[HW.out]
   go_upto_region 4 with (fail)
   rw[xJ.out];go_wp2;obtain⟨w5,xA⟩:=Ze (((w2.setCell ⟨w.heap.size,0,none⟩ (.int .i64 0)).setCell ⟨w.heap.size,1,none⟩ (.int .i64 0)).setCell ⟨w.heap.size,2,none⟩ (.slice none 0 0));have q:=Qs (O8 HJ.out.2.2.1 (.int .i64 0) (.int .i64 0) (.slice none 0 0));rw[xA] at q;rw[xA];obtain⟨s0,s1,s2⟩:=q;obtain⟨hD,hU⟩:=HD.out w5 (.inr (by rw[<-xA];exact(((Upo.refl (fun x=>x=w.heap.size) w2).set _ _ _ (.inl rfl)).set _ _ _ (.inl rfl)).set _ _ _ (.inl rfl)))
   refine Lv (v:=QaI 0 0 none 0 0) (by simp[results,results329,go_sem,QaI,s0,s1,s2]) rfl ⟨ka,kc,none,0,0,rfl,hD,JU _ _ _ _,hU⟩
  ·have e1:Yt D=({ D with fa:=0,fk:=0,ks:=[] },D.fk,D.ks):=by rw[Yt,Le hk,Le (by omega)]
   rw[e1];have xN : ¬D.fk=0:=hk;obtain rfl:y=0:=by omega
   clear e1 f1 f2 f3 f4 hy ft hk HB hy0
   go_enter func329,ntmps329
   go_upto_region 1 with (fail)
   rw[HW.out]
   go_upto_region 4 with (fail)
   rw[xJ.out]
   go_upto_region 7 with (fail)
   obtain⟨w3,xD⟩:=Ze (w2.alloc (.cells #[.int .i64 0,.int .i64 D.fk,.slice ka D.ks.length kc] 37));rw[xD];obtain⟨j2,xC,k2,xF,xO⟩:=HJ.out;have xE:Below w2.heap.size w2 w3:=by rw[<-xD];exact bal (Lb _ _) _
   have j3:=(xE.block p (by omega)).trans j2
   have k3:=(xE.block w.heap.size (by omega)).trans k2
   have n3:w3.heap[w2.heap.size]? = some (.cells #[.int .i64 0,.int .i64 D.fk,.slice ka D.ks.length kc] 37 (0,0)):=by rw[<-xD];exact Yq _ _
   have a3:w3.cell? ⟨p,3,none⟩=some (.int .i64 0):=by rw[cell_of_row w3 p 3 _ _ (0,0) j3];rfl
   have a4:w3.cell? ⟨p,4,none⟩=some (.int .i64 D.fk):=by rw[cell_of_row w3 p 4 _ _ (0,0) j3];rfl
   have a5:w3.cell? ⟨p,5,none⟩=some (.slice ka D.ks.length kc):=by rw[cell_of_row w3 p 5 _ _ (0,0) j3];rfl
   have g3:=fun j=>frozen_of_row w3 p j _ _ j3
   obtain⟨w4,xI⟩:=Ze (((w3.setCell ⟨p,3,none⟩ (.int .i64 0)).setCell ⟨p,4,none⟩ (.int .i64 0)).setCell ⟨p,5,none⟩ (.slice none 0 0));have xM:Hid (((w3.setCell ⟨p,3,none⟩ (.int .i64 0)).setCell ⟨p,4,none⟩ (.int .i64 0)).setCell ⟨p,5,none⟩ (.slice none 0 0)=w4):=xI;have xG:Upo (fun x=>x=p) w3 w4:=by rw[<-xI];exact(((Upo.refl (fun x=>x=p) w3).set _ _ _ (.inl rfl)).set _ _ _ (.inl rfl)).set _ _ _ (.inl rfl)
   have j4:w4.heap[p]? = some (.cells #[.int .i64 (D.free:Int),.map (some m),.int .i64 (D.acts:Int),.int .i64 0,.int .i64 0,.slice none 0 0,.bool D.down] 98 (0,0)):=by
    rw[<-xI];have q1:(w3.setCell ⟨p,3,none⟩ (.int .i64 0)).heap[p]? = some (.cells #[.int .i64 (D.free:Int),.map (some m),.int .i64 (D.acts:Int),.int .i64 0,.int .i64 D.fk,.slice ka D.ks.length kc,.bool D.down] 98 (0,0)):=Lp w3 p 3 _ _ _ j3;have q2:((w3.setCell ⟨p,3,none⟩ (.int .i64 0)).setCell ⟨p,4,none⟩ (.int .i64 0)).heap[p]? = some (.cells #[.int .i64 (D.free:Int),.map (some m),.int .i64 (D.acts:Int),.int .i64 0,.int .i64 0,.slice ka D.ks.length kc,.bool D.down] 98 (0,0)):=Lp _ p 4 _ _ _ q1;exact Lp _ p 5 _ _ _ q2
   have xP:w3.heap.size=w2.heap.size+1:=by rw[<-xD];simp
   have n4:=(xG.block w2.heap.size (by omega) (fun e=>by omega)).trans n3
   have k4:=(xG.block w.heap.size (by omega) (fun e=>by omega)).trans k3
   obtain⟨x0,x1,x2⟩:=Qs n4;obtain⟨z0,z1,z2⟩:=Qs k4;have gz:=fun j=>frozen_of_row w4 w.heap.size j _ _ k4
   have HF:Hid (w4.heap[p]? = some (.cells #[.int .i64 (D.free:Int),.map (some m),.int .i64 (D.acts:Int),.int .i64 0,.int .i64 0,.slice none 0 0,.bool D.down] 98 (0,0))∧Upo (fun x=>x=p) w w4∧w4.heap[w.heap.size]? = some (.cells #[.int .i64 0,.int .i64 0,.slice none 0 0] 37 (0,0))∧p<w.heap.size):=⟨j4,(xC.next xE).trans xG (fun _ _ q=>q),k4,xF⟩
   clear xD xI j2 xC k2 xO xE j3 k3 n3 xG j4 xP n4 k4 HJ
   go_upto_region 8 with (fail)
   rw[xM.out];go_wp2;obtain⟨w5,xA⟩:=Ze (((w4.setCell ⟨w.heap.size,0,none⟩ (.int .i64 0)).setCell ⟨w.heap.size,1,none⟩ (.int .i64 D.fk)).setCell ⟨w.heap.size,2,none⟩ (.slice ka D.ks.length kc));have q:=Qs (O8 HF.out.2.2.1 (.int .i64 0) (.int .i64 D.fk) (.slice ka D.ks.length kc));rw[xA] at q;rw[xA];obtain⟨s0,s1,s2⟩:=q;have xL:Upo (fun x=>x=w.heap.size) w4 w5:=by rw[<-xA];exact(((Upo.refl (fun x=>x=w.heap.size) w4).set _ _ _ (.inl rfl)).set _ _ _ (.inl rfl)).set _ _ _ (.inl rfl)
   have hU:Upo (fun x=>x=p) w w5:=HF.out.2.1.trans xL (fun b hb e=>by omega)
   have hD:Dk w5 p m R none kb ko 0 { D with fa:=0,fk:=0,ks:=[] } none:=HH.out.re (D' := { D with fa:=0,fk:=0,ks:=[] }) hU rfl ((xL.block p (by have:=HF.out.2.2.2;have:=HF.out.2.1.size;omega) (fun e=>by have:=HF.out.2.2.2;omega)).trans HF.out.1) (.inr rfl) HH.out.fr HH.out.ac (.inl rfl)
   refine Lv (v:=QaI 0 D.fk ka D.ks.length kc) (by simp[results,results329,go_sem,QaI,s0,s1,s2]) rfl ⟨none,0,ka,kc,0,rfl,hD,HH.out.kp.same fun h0=>hU.block kb (HH.out.kt h0).lt (HH.out.kbp h0).1,hU⟩
end
end St
namespace St
open Go.Shelf
def Tryz.lays190_ren:Go.Shelf.Ren:=⟨fun|190=>180|125=>275|258=>274|128=>356|129=>357|302=>347|303=>348|304=>349|305=>350|306=>351|307=>352|308=>353|309=>354|310=>355|333=>397|329=>398|330=>399|334=>400|335=>401|336=>402|344=>410|n=>n,fun|31=>22|9=>9|3=>3|46=>276|0=>0|51=>110|53=>48|4=>4|183=>395|182=>394|131=>398|5=>5|218=>422|222=>425|228=>435|229=>436|n=>n,fun|n=>n⟩
theorem Tryz.lays190:Go.Proofs.Lays.n190 prog Tryz.lays190_ren := {
 mixed:=by kernel_rfl
 f125:=func275.trans (Lw some (by kernel_rfl))
 f128:=func356.trans (Lw some (by kernel_rfl))
 f129:=func357.trans (Lw some (by kernel_rfl))
 f190:=func180.trans (Lw some (by kernel_rfl))
 f258:=func274.trans (Lw some (by kernel_rfl))
 f302:=func347.trans (Lw some (by kernel_rfl))
 f303:=func348.trans (Lw some (by kernel_rfl))
 f304:=func349.trans (Lw some (by kernel_rfl))
 f305:=func350.trans (Lw some (by kernel_rfl))
 f306:=func351.trans (Lw some (by kernel_rfl))
 f307:=func352.trans (Lw some (by kernel_rfl))
 f308:=func353.trans (Lw some (by kernel_rfl))
 f309:=func354.trans (Lw some (by kernel_rfl))
 f310:=func355.trans (Lw some (by kernel_rfl))
 f329:=func398.trans (Lw some (by kernel_rfl))
 f330:=func399.trans (Lw some (by kernel_rfl))
 f333:=func397.trans (Lw some (by kernel_rfl))
 f334:=func400.trans (Lw some (by kernel_rfl))
 f335:=func401.trans (Lw some (by kernel_rfl))
 f336:=func402.trans (Lw some (by kernel_rfl))
 f344:=func410.trans (Lw some (by kernel_rfl))
 t0:=underlying0
 a0:=Tryz.isAgg0
 z0:=Tryz.sizeOf0
 v0:=Tryz.zeroValue0
 t3:=underlying3
 a3:=Tryz.isAgg3
 z3:=Tryz.sizeOf3
 v3:=Tryz.zeroValue3
 t4:=underlying4
 a4:=Tryz.isAgg4
 z4:=Tryz.sizeOf4
 v4:=Tryz.zeroValue4
 t5:=underlying5
 a5:=Tryz.isAgg5
 z5:=Tryz.sizeOf5
 v5:=Tryz.zeroValue5
 t9:=underlying9
 a9:=Tryz.isAgg9
 z9:=Tryz.sizeOf9
 v9:=Tryz.zeroValue9
 t31:=underlying22
 a31:=Tryz.isAgg22
 z31:=Tryz.sizeOf22
 v31:=Tryz.zeroValue22
 t46:=underlying276
 a46:=Tryz.isAgg276
 z46:=Tryz.sizeOf276
 v46:=Tryz.zeroValue276
 t51:=underlying110
 a51:=Tryz.isAgg110
 z51:=Tryz.sizeOf110
 v51:=Tryz.zeroValue110
 t53:=underlying48
 a53:=Tryz.isAgg48
 z53:=Tryz.sizeOf48
 v53:=Tryz.zeroValue48
 t131:=underlying398
 a131:=Tryz.isAgg398
 z131:=Tryz.sizeOf398
 v131:=Tryz.zeroValue398
 t182:=underlying394
 a182:=Tryz.isAgg394
 z182:=Tryz.sizeOf394
 v182:=Tryz.zeroValue394
 t183:=underlying395
 a183:=Tryz.isAgg395
 z183:=Tryz.sizeOf395
 v183:=Tryz.zeroValue395
 t218:=underlying422
 a218:=Tryz.isAgg422
 z218:=Tryz.sizeOf422
 v218:=Tryz.zeroValue422
 t222:=underlying425
 a222:=Tryz.isAgg425
 z222:=Tryz.sizeOf425
 v222:=Tryz.zeroValue425
 t228:=underlying435
 a228:=Tryz.isAgg435
 z228:=Tryz.sizeOf435
 v228:=Tryz.zeroValue435
 t229:=underlying436
 a229:=Tryz.isAgg436
 z229:=Tryz.sizeOf436
 v229:=Tryz.zeroValue436 }
open Go.Sort Go.RowKit in
theorem Tryz.slices_Sort_string(blk off cap:Nat)(ss:List (List UInt8))(w:World)(hH:Holds encStr w blk off ss.toArray)(hblk:blk<w.heap.size)(hsz:ss.length<4611686018427387904) :
  Calls prog 180 #[.slice (some ⟨blk,off,none⟩) ss.length cap] w fun e w' =>
   e = .returned (.tuple #[]) ∧ ∃n os,w'=grow (putRow encStr (Sort.ahead w n) blk off (ss.mergeSort fun x y=>decide (x<=y)).toArray) os:=Any.slices_Sort_string Tryz.lays190 blk off cap ss w hH hblk hsz
open Go.RowKit Go.Sort in
theorem Tryz.slices_Sort_string_none(p:OA)(cap:Nat)(w:World) :
  Calls prog 180 #[.slice p 0 cap] w fun e w'=>e = .returned (.tuple #[])∧w'=w:=Any.slices_Sort_string_none Tryz.lays190 p cap w
end St
namespace St
open Go.RowKit Go.Maps Go.Sort
structure RdN(w:World)(ao:OA)(b:Nat)(N:List (List UInt8)):Prop where
 ptr:0<N.length->ao=some ⟨b,0,none⟩
 cell : ∀j,j<N.length->w.cell? ⟨b,j,none⟩=some (.string ⟨(N.getD j []).toArray⟩)
theorem RdN.same{w W:World}{ao:OA}{b:Nat}{N:List (List UInt8)}(h:RdN w ao b N)(hb:0<N.length->W.heap[b]? = w.heap[b]?):RdN W ao b N :=
 ⟨h.ptr,fun j hj=>(LD (a:=⟨b,j,none⟩) (hb (by omega))).trans (h.cell j hj)⟩
theorem RdN.lt{w:World}{ao:OA}{b:Nat}{N:List (List UInt8)}(h:RdN w ao b N)(h0:0<N.length):b<w.heap.size:=Ln w _ (h.cell 0 h0)
theorem Tryz.infoS:(prog.info? 9).map (fun i=>(i.zero,i.size,i.bytes))=some (some (.string ⟨#[]⟩),1,16):=by kernel_rfl
theorem QiP{L:List (List UInt8×FV)}(h:Ord L){ss:List (List UInt8)}(hp:ss.Perm (Qh L)):ss.mergeSort (fun x y=>decide (x<=y))=Qh L:=by
 have e:ss.mergeSort leB=(Qh L).mergeSort leB:=mergeSort_of_perm hp;rw[show(fun x y:List UInt8=>decide (x<=y))=leB from rfl,e]
 refine List.mergeSort_of_pairwise ?_
 refine List.pairwise_map.2 (h.1.imp fun {a b} hlt => ?_)
 simp only[leB,decide_eq_true_eq];exact List.le_of_lt hlt
theorem Qos{w:World}{B g cap:Nat}{N:List (List UInt8)}(h:w.ownsRow B 9 1 (.slice (some ⟨g,0,none⟩) N.length cap) N.length (N.map encStr)):RdN w (some ⟨g,0,none⟩) g N:=by
 refine⟨fun _=>rfl,fun j hj => ?_⟩
 rcases h.2 with ⟨e,_⟩|⟨g',cap',cur,e,_,hb,h1,h2,h3,h4⟩
 ·cases e
 ·cases e;rw[cell_of_row w g j cur _ (0,0) hb];have:=Lw (fun l=>l[j]?) h4
  simp only[Nat.mul_one,List.getElem?_take,if_pos hj] at this
  rw[NU] at this;rw[this];simp[encStr,List.getElem?_eq_getElem hj,List.getD_eq_getElem?_getD]
theorem Qil(w:World){p m:Nat}{R:List UInt8->FR}{ka:OA}{kb ko kc:Nat}{D:DV}(h:Dk w p m R ka kb ko kc D none) :
  Calls prog 102 #[.pointer (some ⟨p,0,none⟩)] w fun e w' => ∃ao b cap,e = .returned (.slice ao (Qh D.L).length cap)∧RdN w' ao b (Qh D.L)∧(0<(Qh D.L).length->w.heap.size<=b∧Ty w' b 9)∧RowKit.Below w.heap.size w w':=by
 obtain⟨i0,hi,xR,xS,xT⟩:=info_parts Tryz.infoS;obtain⟨D0,xE,xK,xA⟩:=h.mp.perm (Oj h.ord) (Qbx D.L R);obtain⟨c0,c1,c2,c3,c4,c5,c6⟩:=h.cells;have xL:=xE.lt;have xM:Maps.size D0<=1099511627776:=by rw[xK];simp only[Qh,List.length_map];exact h.cnt
 have HO:Hid (Ord D.L):=h.ord;have HP:Hid ((Qh D.L).Perm (strKeys D0)):=xA;obtain⟨n,hn⟩:=Ze ((Qh D.L).length);have HN:Hid ((Qh D.L).length=n):=hn;rw[hn] at xE xK ⊢;clear h xA hn c0 c2 c3 c4 c5 c6
 go_enter func102,ntmps102
 go_wp2_with (first
  | (at_range;refine wpList_range_own _ rfl _ 96 rfl 9 129 Tryz.keyS underlying96 hv m n D0 rfl xE ?_;intro w0 hrg0 hg0 hs0)
  | go_in)
 go_frame
 have xU:Hid (w0.heap.size=w.heap.size+1):=hs0;clear hs0
 go_loopw [3] (fun v wr => ∃(left:Lit->Bool) (cnt:Nat) (ss:List (List UInt8)),wr.ranges prog 9 hv m w.heap.size n D0 left cnt∧ss.length+cnt<=Maps.size D0 ∧
   wr.ownsRow w.heap.size 9 1 v ss.length (ss.map encStr)∧(v = .slice none 0 0->ss=[])∧Collected D0 left ss∧RowKit.Below w.heap.size w wr)
  (fun _ wr=>wr.rangeLeft m w.heap.size)
 case atStart=>exact⟨_,_,[],hrg0,by simp,⟨rfl,.inl ⟨rfl,rfl⟩⟩,fun _=>rfl,Collected.start D0,(Lb _ _).grown hg0 (La _) (fun j hj=>by cases hj)⟩
 case round =>
  obtain⟨left,cnt,ss,xI,xV,xG,xO,hC,xF⟩:=hrel
  go_wp2_with (first
   | (at_next;refine wpList_next_ranges _ rfl _ rfl 9 Tryz.keyS hv encStr (fun v:Value=>v) (fun key kl hk=>by obtain⟨x,hx,_⟩:=Maps.keyOf_str underlying9 hk;exact⟨x,hx⟩) (fun v y _=>⟨v,rfl⟩) m w.heap.size n _ _ _ rfl xI ?_ ?_)
   | go_in)
  ·intro hc0 hl0;have xA:ss.Perm (Qh D.L):=(hC.perm xE Tryz.keyS underlying9 hl0).trans HP.out.symm;have xC:ss.length=n:=by rw[xA.length_eq];exact HN.out
   have xD:=QiP HO.out xA
   rcases xG.2 with ⟨hnil,_⟩|⟨g,cap,cur,rfl,hbase,hb,h1,h2,h3,h4⟩
   ·have xP:=xO hnil;subst hnil xP;have xN:n=0:=by simpa using xC.symm
    subst xN;have HC:=Tryz.slices_Sort_string_none none 0 wr;have HK:Hid (Qh D.L=[]):=List.length_eq_zero_iff.1 HN.out;clear xD xA xC
    go_wp2_with (go_at_call 180;refine HC.mono ?_;rintro e w' ⟨rfl,rfl⟩)
    go_ret
    exact⟨none,0,0,rfl,by rw[HK.out];exact⟨fun h=>by simp at h,fun j hj=>by simp at hj⟩,by intro h;simp at h,xF⟩
   ·have hH:Holds encStr wr g 0 ss.toArray:=holds_of_block hb (by simpa using h4)
    have xJ:g<wr.heap.size:=(Array.getElem?_eq_some_iff.1 hb).1
    have hc:=Tryz.slices_Sort_string g 0 cap ss wr hH xJ (by omega)
    have HF:Hid (∀nn os,RdN (grow (putRow encStr (Sort.ahead wr nn) g 0 (ss.mergeSort fun x y=>decide (x<=y)).toArray) os) (some ⟨g,0,none⟩) g (Qh D.L)∧(0<(Qh D.L).length->w.heap.size<=g∧Ty (grow (putRow encStr (Sort.ahead wr nn) g 0 (ss.mergeSort fun x y=>decide (x<=y)).toArray) os) g 9)∧RowKit.Below w.heap.size w (grow (putRow encStr (Sort.ahead wr nn) g 0 (ss.mergeSort fun x y=>decide (x<=y)).toArray) os)):=fun nn os=>by
     have q:=ownsRow_sorted (n:=nn) (os:=os) (ss:=ss) (ts:=ss.mergeSort fun x y=>decide (x<=y)) (by simp) hbase hb h1 h2 h3
     have q2:=xF.grown (grownBy_sorted (n:=nn) (os:=os) (ss.mergeSort fun x y=>decide (x<=y)).toArray) xF.size (fun j hj=>by cases hj;exact hbase)
     rw[xD] at q q2 ⊢;rw[xC,<-HN.out] at q;have xQ:Ty (grow (putRow encStr (Sort.ahead wr nn) g 0 (Qh D.L).toArray) os) g 9:=by
      rcases q.2 with ⟨e,_⟩|⟨g',cap',cur',e,_,hb',_⟩
      ·cases e
      ·cases e;exact⟨_,_,hb'⟩
     exact⟨Qos q,fun _=>⟨hbase,xQ⟩,q2⟩
    rw[xC] at hc ⊢;clear xD xA hH xJ h1 h2 h3 h4 hb xC
    go_wp2_with (go_at_call 180;refine hc.mono ?_;rintro e w' ⟨rfl,nn,os,rfl⟩)
    go_ret
    exact⟨_,g,cap,rfl,by have:=HF.out nn os;rw[HN.out] at this;exact this⟩
  ·intro x c kl yd yp w2 cnt2 hkey hlk hv' hat hrg2 hlt hg2 hs2 hen;obtain⟨x',ex,rfl,_⟩:=Maps.keyOf_str underlying9 hkey;obtain rfl:x=x':=encStr_inj ex;have xB:=xG.kept hg2 (Or.inr (row_ne_iter xG xI).symm);clear hs2
   go_wp2_with (first
    | (at_builtin;refine wpList_append_own _ rfl _ _ 22 rfl w.heap.size 9 i0 (.string ⟨#[]⟩) 1 16 underlying22 hi xR xS xT rfl (by decide) _ _ _ rfl (xB.alloc _) ⟨w2.heap.size,0,none⟩ 1 1 [encStr x] rfl rfl (cell_one_new _ _ _) (by simp[Value.oneCell',encStr]) (by unfold maxLen at *;omega) (by omega) (by have:=xF.size;have:=hg2.size;simp;omega) ?_;intro v' w3 hown' hg3 hnil3;go_frame)
    | go_in)
   have xH:=(hrg2.alloc _).kept hg3 (row_ne_low xB xL) (row_ne_iter xB hrg2)
   go_roundw
   case rel =>
    refine⟨_,cnt2,ss++[x],xH,by simp;omega,by simpa using hown',fun hv'=>by have:=(hnil3.1 hv').2;omega,hC.step hlk hat,?_⟩
    exact((xF.grown hg2 xF.size (fun j hj=>by cases hj;exact La _)).alloc (by have:=xF.size;have:=hg2.size;omega) _).grown hg3 (by have:=xF.size;have:=hg2.size;simp;omega) (fun j hj=>(xB.lt j hj).1)
   case measure=>rw[xH.left_eq,xI.left_eq];exact hlt
end St
end Go.Proofs.YtoblgjledefdbaaGreatDoor
