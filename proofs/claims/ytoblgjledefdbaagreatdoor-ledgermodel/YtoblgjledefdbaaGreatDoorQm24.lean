/- Own work. -/
import Derived.Test.YtoblgjledefdbaaGreatDoorQm21
import Derived.Test.YtoblgjledefdbaaGreatDoorQm23
set_option maxRecDepth 100000
set_option maxHeartbeats 4000000
namespace Go.Proofs.YtoblgjledefdbaaGreatDoor
open Go.RowKit
attribute [local go_sem ↓] Go.wp_at_zero Go.wp_at_succ
open Go.Proofs.Tryz
namespace St
open Rc
section
variable {q p:Nat} {T:Nat->Prop} {D:DV} {S:SV}
theorem Qou{item:List UInt8}{ds:LB}(h : ¬refE S item ds=0):refD S item ds=refE S item ds:=by
 unfold refD;unfold refE at h ⊢
 split
 ·rfl
 ·rename_i h1
  rw[Le h1] at h
  split
  ·rfl
  ·rename_i h2
   rw[Le h2] at h
   split
   ·rfl
   ·rename_i h3
    rw[Le h3] at h
    split
    ·rfl
    ·rename_i h4
     rw[Le h4] at h;exact absurd rfl h
theorem QmM{item:List UInt8}{ds:LB}(h:refE S item ds=0):S.lame=false∧item.length<=1048576∧S.ends.length<65536∧nxt S ds=true∧refD S item ds=if 268435456<lst S.ends+(item.length+8) then 172 else 0:=by
 unfold refD;unfold refE at h
 by_cases h1:S.lame=true
 ·rw[Lk h1] at h;cases h
 ·rw[Le h1] at h ⊢
  by_cases h2:1048576<item.length
  ·rw[Lk h2] at h;cases h
  ·rw[Le h2] at h ⊢
   by_cases h3:65536<=S.ends.length
   ·rw[Lk h3] at h;cases h
   ·rw[Le h3] at h ⊢
    by_cases h4:nxt S ds=false
    ·rw[Lk h4] at h;cases h
    ·rw[Le h4];exact⟨Bool.eq_false_iff.2 h1,by omega,by omega,by simpa using h4,rfl⟩
def Ad1(w wx:World)(bs q:Nat)(v8 v9:Value)(pl:BA)(ss:LB):Prop :=
 ∃bp br va vc n,v8 = .pointer (some ⟨bp,0,none⟩)∧v9 = .pointer (some ⟨br,0,none⟩)∧Below w.heap.size w wx∧wx.heap[bs]? = some (.cells #[.pointer (some ⟨q,0,none⟩)] 99 (0,0))∧wx.heap[bp]? = some (.cells #[.string pl] 9 (0,0))∧wx.heap[br]? = some (.cells #[.slice va n vc] 22 (0,0))∧w.heap.size<=bp∧w.heap.size<=br∧Rc.Qi wx w.heap.size (.slice va n vc) ss
theorem Qdf(p:Nat)(ds:LB)(h : ∀d∈ds,d.size<=32):(Rc.Qk (Q5 p ds)).length<=40*(Q5 p ds).length:=by
 suffices hh : ∀l:LB,(∀x∈l,x.size<=40)->(Rc.Qk l).length<=40*l.length from hh _ fun x hx=>by
  unfold Q5 at hx;obtain⟨i,d,hd,rfl⟩:=List.mem_mapIdx.1 hx;rw[Yp,OS _ _ (by rw[Qb];exact h _ (L3 _))]
  omega
 intro l
 induction l with
 | nil=>intro _;simp[Rc.Qk]
 | cons x l ih =>
  intro hl;have h1:=ih fun y hy=>hl y (LT _ hy)
  have h2:=hl x (by simp)
  have h3:Rc.Qk (x::l)=x.data.toList++Rc.Qk l:=by simp[Rc.Qk]
  rw[h3,Lc,LE,Qb];omega
section
variable {w w4:World} {bs q b8 b9 n vc:Nat} {va:OA} {pl:BA} {ss:LB} {x y:Value}
theorem Qfu(u:Below w.heap.size w w4)(hl:bs<w.heap.size)(hb:Bk w4 bs (.pointer (some ⟨q,0,none⟩)) 99)(a:Bk w4 b8 x 9)(a':Bk w4 b9 y 22)(h8:w.heap.size<=b8)(h9:w.heap.size<=b9)(hne:b8≠b9)
  (p8 : ∀g,(Value.slice va n vc).ownBlock=some g->g≠b8) (p9 : ∀g,(Value.slice va n vc).ownBlock=some g->g≠b9) (o:Rc.Qi w4 w.heap.size (.slice va n vc) ss):Ad1 w ((w4.setCell ⟨b8,0,none⟩ (.string pl)).setCell ⟨b9,0,none⟩ (.slice va n vc)) bs q (.pointer (some ⟨b8,0,none⟩)) (.pointer (some ⟨b9,0,none⟩)) pl ss :=
 ⟨b8,b9,va,vc,n,rfl,rfl,(u.setCell h8 _).setCell h9 _,(hb.other (by omega) _).other (by omega) _,(a.put _).other hne _,(a'.other hne.symm _).put _,h8,h9,QF o (fun g hg=>(Below.heap_setCell _ _ _ _ (p9 g hg)).trans (Below.heap_setCell _ _ _ _ (p8 g hg)))⟩
theorem QN{w:World}{B B':Nat}{v:Value}{ss:LB}(o:Rc.Qi w B v ss)(h:B'<=B):Rc.Qi w B' v ss:=World.ownsRow.mono o h
theorem QoL(w:World)(o o2:Obj):w.heap.size+1<((w.alloc o).alloc o2).heap.size:=by rw[Y3,Y3];omega
theorem QnK{B:Nat}(o:Rc.Qi w4 B (.slice va n vc) ss) : ∀g,(Value.slice va n vc).ownBlock=some g->g≠w4.heap.size:=fun g hg e=>by
 have:=(Ng o g hg).2;omega
theorem Qea(u:Below w.heap.size w w4)(hl:bs<w.heap.size)(hb:Bk w4 bs (.pointer (some ⟨q,0,none⟩)) 99)(a:Bk w4 b8 x 9)(h8:w.heap.size<=b8)
  (p8 : ∀g,(Value.slice va n vc).ownBlock=some g->g≠b8) (o:Rc.Qi w4 w.heap.size (.slice va n vc) ss):Ad1 w (((w4.alloc (.cells #[y] 22)).setCell ⟨b8,0,none⟩ (.string pl)).setCell ⟨w4.heap.size,0,none⟩ (.slice va n vc)) bs q (.pointer (some ⟨b8,0,none⟩)) (.pointer (some ⟨w4.heap.size,0,none⟩)) pl ss :=
 Qfu (bal u _) hl (hb.al _) (a.al _) (UZ w4 y _) h8 u.size (by have:=a.lt;omega) p8 (QnK o) (Rc.Yr o _)
theorem QgH(u:Below w.heap.size w w4)(hl:bs<w.heap.size)(hb:Bk w4 bs (.pointer (some ⟨q,0,none⟩)) 99)(a:Bk w4 b9 x 22)(h9:w.heap.size<=b9)
  (p9 : ∀g,(Value.slice va n vc).ownBlock=some g->g≠b9) (o:Rc.Qi w4 w.heap.size (.slice va n vc) ss):Ad1 w ((w4.alloc (.cells #[.string pl] 9)).setCell ⟨b9,0,none⟩ (.slice va n vc)) bs q (.pointer (some ⟨w4.heap.size,0,none⟩)) (.pointer (some ⟨b9,0,none⟩)) pl ss :=
 ⟨w4.heap.size,b9,va,vc,n,rfl,rfl,(bal u _).setCell h9 _,(hb.al _).other (by omega) _,(UZ w4 _ _).other (by have:=a.lt;omega) _,(a.al _).put _,u.size,h9,QF (Rc.Yr o _) (fun g hg=>Below.heap_setCell _ _ _ _ (p9 g hg))⟩
theorem Qlw(u:Below w.heap.size w w4)(hb:Bk w4 bs (.pointer (some ⟨q,0,none⟩)) 99)(o:Rc.Qi w4 w.heap.size (.slice va n vc) ss):Ad1 w ((w4.alloc (.cells #[.string pl] 9)).alloc (.cells #[.slice va n vc] 22)) bs q (.pointer (some ⟨w4.heap.size,0,none⟩)) (.pointer (some ⟨w4.heap.size+1,0,none⟩)) pl ss :=
 ⟨w4.heap.size,w4.heap.size+1,va,vc,n,rfl,rfl,bal (bal u _) _,(hb.al _).al _,(UZ w4 _ _).al _,new2 _ _ _,u.size,by have:=u.size;omega,Rc.Yr (Rc.Yr o _) _⟩
theorem Qi7(u:Below w.heap.size w w4)(hb:Bk w4 bs (.pointer (some ⟨q,0,none⟩)) 99)(o:Rc.Qi w4 w.heap.size (.slice va n vc) ss):Ad1 w ((w4.alloc (.cells #[.slice va n vc] 22)).alloc (.cells #[.string pl] 9)) bs q (.pointer (some ⟨w4.heap.size+1,0,none⟩)) (.pointer (some ⟨w4.heap.size,0,none⟩)) pl ss :=
 ⟨w4.heap.size+1,w4.heap.size,va,vc,n,rfl,rfl,bal (bal u _) _,(hb.al _).al _,new2 _ _ _,(UZ w4 _ _).al _,by have:=u.size;omega,u.size,Rc.Yr (Rc.Yr o _) _⟩
end
theorem Oy(w:World)(h:Sk w q p T D S)(hrm:Rm 7 D)(s:BA)(hs:s.size<=9223372036854775807)(ao:OA)(b off len cap:Nat)(ds:LB)(hr:Rc.RdS w ao b off len ds)(hmx:len<=9223372036854775807)(D':DV)(S':SV)(r:Int)(hR:addD D S s.data.toList ds=(D',S',r)) :
  Calls prog 100 #[.pointer (some ⟨q,0,none⟩),.string s,.slice ao len cap] w fun e w'=>e = .returned (.int .i64 r)∧SkM w w' q p T D' S':=by
 obtain⟨w1,yG⟩:=Ze (w.alloc (.cells #[.pointer (some ⟨q,0,none⟩)] 99));have u1:Below w.heap.size w w1:=by rw[<-yG];exact bal (Lb _ _) _
 obtain⟨bs,yK⟩:=Ze w.heap.size;have k1:w1.heap[bs]? = some (.cells #[.pointer (some ⟨q,0,none⟩)] 99 (0,0)):=by rw[<-yG,<-yK];exact Yq _ _
 have HC:Hid (∀W,Below w1.heap.size w1 W->W.cell? ⟨bs,0,none⟩=some (.pointer (some ⟨q,0,none⟩))):=fun W hW=>by
  rw[cell_of_row W bs 0 _ _ (0,0) ((hW.block bs (Array.getElem?_eq_some_iff.1 k1).1).trans k1)];rfl
 have HK:Hid (∀W,Below w1.heap.size w1 W->Bk W bs (.pointer (some ⟨q,0,none⟩)) 99):=fun W hW=>(hW.block bs (Array.getElem?_eq_some_iff.1 k1).1).trans k1
 have xQ:Hid (bs<w1.heap.size):=(Array.getElem?_eq_some_iff.1 k1).1
 have c1:=HC.out w1 (Lb _ _);have HW:=Qd yG;have HB:=Qd yK;clear yG yK;obtain⟨re,xS⟩:=Ze (refE S s.data.toList ds);have HF:=Qd (Qe4 w1 (h.next u1) s hs ao b off len cap ds (hr.next u1 (La _)) hmx re xS)
 by_cases h0:re=0
 ·subst h0;obtain⟨g1,g2,g3,g4,g5⟩:=QmM xS;rw[Qb] at g2 g5;obtain⟨n1,n2⟩:=(Qdt S ds).1 g4;obtain⟨zG,yL,hf,_,_,zA⟩:=h.small;have zB:=Uk S.ends.length hf;have h1:=h.next u1;have xC:=hr.next u1 (La _);have yZ:=hr.hl;obtain⟨pl,xX⟩:=Ze (tx (pay s.data.toList));obtain⟨ss,xO⟩:=Ze (Q5 (nn S.ends.length) ds);have HP:Hid (∀W,Below w1.heap.size w1 W->Calls prog 167 #[.string s] W fun e w'=>e = .returned (.string pl)∧Below w1.heap.size w1 w'∧Below W.heap.size W w'):=fun W hW=>(QeR W s hs pl (by rw[payS,Qb,Lk g2];exact xX)).mono fun e w' z=>⟨z.1,Qa hW z.2,z.2⟩
  have HR:Hid (∀W,Below w1.heap.size w1 W->Calls prog 168 #[.pointer (some ⟨q,0,none⟩),.slice ao len cap] W fun e w' => ∃va vc,e = .returned (.slice va len vc)∧Rc.Qi w' W.heap.size (.slice va len vc) ss∧Below w1.heap.size w1 w'∧Below W.heap.size W w'):=fun W hW =>
   (Qds W (h1.next hW) ao b off len cap ds (xC.next hW (La _)) (by omega) (fun d hd=>by rw[n2 d hd];exact yL)).mono fun e w' z=>by
    obtain⟨v,z1,z2,z3⟩:=z;rw[xO] at z2;obtain⟨va,vc,rfl⟩:=Qx z2;have e5:ss.length=len:=by rw[<-xO,Jz];exact yZ
    rw[e5] at z1 z2;exact⟨va,vc,z1,z2,Qa hW z3,z3⟩
  go_enter func100,ntmps100
  go_upto_region 1 with (fail)
  rw[HW.out,HB.out]
  go_upto_region 4 with (go_at_call 166;(with_reducible refine HF.out.mono ?_);rintro e w2 ⟨rfl,rfl⟩)
  go_cut [8,9] (fun v8 v9 wx=>Ad1 w2 wx bs q v8 v9 pl ss)
  case first =>
   -- <A
   have u:=bdz w2;clear HF HW HB hR xS g1 g2 g3 g4 g5 n1 n2 hrm hr xC h h1;have zE:=fun o=>HC.out _ (bal (Lb _ w2) o)
   have zF:=fun o o2=>HC.out _ (bal (bal (Lb _ w2) o) o2)
   go_region_with (first
    | (go_at_call 167;first
     | ((with_reducible refine(HP.out _ u).mono ?_);rintro e w3 ⟨rfl,u,x⟩;have s3:=u.size;have c3:=HC.out _ u;have yV:=fun o=>HC.out _ (bal u o);have yW:=fun o o2=>HC.out _ (bal (bal u o) o2);clear x)
     | ((with_reducible refine(HP.out _ (bdw (bal (Lb _ _) _))).mono ?_);rintro e w3 ⟨rfl,u,x⟩;have s3:=u.size;have c3:=HC.out _ u;have yV:=fun o=>HC.out _ (bal u o);have yW:=fun o o2=>HC.out _ (bal (bal u o) o2);have a1:=QlD x;clear x)
     | ((with_reducible refine(HP.out _ (bdw (bal (bal (Lb _ _) _) _))).mono ?_);rintro e w3 ⟨rfl,u,x⟩;have s3:=u.size;have c3:=HC.out _ u;have yV:=fun o=>HC.out _ (bal u o);have yW:=fun o o2=>HC.out _ (bal (bal u o) o2);have ⟨a1,a2⟩:=QlE x;clear x))
    | (go_at_call 168;first
     | ((with_reducible refine(HR.out _ u).mono ?_);rintro e w4 ⟨va,vc,rfl,o4,u,x⟩;have o5:=QN o4 s3;(try (have p3:=apart o4 a1.lt;have a3:=a1.next x;have ⟨b3,f3,g3,k3⟩:=a3.four;have ⟨n3,m3⟩:=a3.ne));(try (have p4:=apart o4 a2.lt;have a4:=a2.next x;have ⟨b4,f4,g4,k4⟩:=a4.four;have ⟨n4,m4⟩:=a4.ne)))
     | ((with_reducible refine(HR.out _ (bal u _)).mono ?_);rintro e w4 ⟨va,vc,rfl,o4,u,x⟩;have o5:=QN o4 (Lu s3 (bal (Lb _ w3) _).size);(try (have p3:=apart o4 (a1.al _).lt;have a3:=(a1.al _).next x;have ⟨n5,m5⟩:=a1.ne;have ⟨b3,f3,g3,k3⟩:=a3.four;have ⟨n3,m3⟩:=a3.ne));have p4:=apart o4 (UZ w3 _ _).lt;have a4:=Qjf x;have ⟨b4,f4,g4,k4⟩:=a4.four;have ⟨n4,m4⟩:=a4.ne)
     | ((with_reducible refine(HR.out _ (bal (bal u _) _)).mono ?_);rintro e w4 ⟨va,vc,rfl,o4,u,x⟩;have o5:=QN o4 (Lu s3 (bal (bal (Lb _ w3) _) _).size);have ⟨a3,a4⟩:=Qjg x;have p3:=apart o4 ((UZ w3 _ _).al _).lt;have p4:=apart o4 (QoL w3 _ _);have ⟨b3,f3,g3,k3⟩:=a3.four;have ⟨n3,m3⟩:=a3.ne;have ⟨b4,f4,g4,k4⟩:=a4.four;have ⟨n4,m4⟩:=a4.ne)))
   all_goals
    have xN:=HK.out _ u
    go_wp2_with fail
    go_meet
    case rel =>
     first
      | (with_reducible exact Qlw u xN o5)
      | (with_reducible exact Qi7 u xN o5)
      | (with_reducible exact Qfu u xQ.out xN a3 a4 (by omega) (by omega) (by omega) p3 p4 o5)
      | (with_reducible exact Qfu u xQ.out xN a4 a3 (by omega) (by omega) (by omega) p4 p3 o5)
      | (with_reducible exact Qea u xQ.out xN a3 (by omega) p3 o5)
      | (with_reducible exact Qea u xQ.out xN a4 (by omega) p4 o5)
      | (with_reducible exact QgH u xQ.out xN a3 (by omega) p3 o5)
      | (with_reducible exact QgH u xQ.out xN a4 (by omega) p4 o5)
   -- A>
  obtain⟨bp,br,va,vc,n,rfl,rfl,uc,kb,kp,kr,lp,lr,oc⟩:=hcut;have yE:=h1.next uc;have yH:=Qa u1 uc;have zC:pl.size=s.size+8:=by rw[<-xX,Yp,pay_len,Qb]
  have yN:ss.length=len:=by rw[<-xO,Jz];exact yZ
  have yO : ∀x∈ss,x.size<=9223372036854775807:=fun x hx=>by
   rw[<-xO] at hx;unfold Q5 at hx;obtain⟨i,d,hd,rfl⟩:=List.mem_mapIdx.1 hx;rw[Yp,OS _ _ (by rw[Qb,n2 _ (L3 _)];exact yL)]
   omega
  obtain⟨zH,rb,zI,hv,yB,xR,xW⟩:=Rc.QR oc yO;injection hv with e1 e2 e3
  subst e1 e2 e3;rw[yN] at kr oc yB xR;have HL:Hid (∀W,Below wc.heap.size wc W->Calls prog 155 #[.pointer (some ⟨q,0,none⟩),.string ⟨#[105,116,101,109,115]⟩] W fun e w'=>e = .returned (.int .i64 (lst S.ends:Int))∧w'=W):=fun W hW=>YH W (yE.next hW)
  have xU:Hid (∀W,Below wc.heap.size wc W->W.cell? ⟨bp,0,none⟩=some (.string pl)∧W.cell? ⟨bs,0,none⟩=some (.pointer (some ⟨q,0,none⟩))):=fun W hW=>⟨((show Bk wc bp _ _ from kp).next hW).both.1,((show Bk wc bs _ _ from kb).next hW).both.1⟩
  have xZ:IntKind.i64.wrap (268435456 - (lst S.ends:Int))=268435456 - (lst S.ends:Int):=by rw[Lr];omega
  obtain⟨ls,yF⟩:=Ze (lst S.ends);rw[yF] at xZ HL
  by_cases hroom:268435456<ls+(s.size+8)
  ·have yY:(268435456:Int) - (ls:Int)<(pl.size:Int):=by omega
   have e1:addD D S s.data.toList ds=(D,S,172):=by
    unfold addD;rw[g5,yF,Lk hroom];rfl
   rw[e1] at hR;injection hR with e2 e3
   injection e3 with e3 e4
   subst e2 e3 e4;have HZ:Hid (∀W,Below wc.heap.size wc W->SkM w W q p T D S):=fun W hW=>SkM.of h (Qa yH hW)
   clear h h1 hr xC yE HP HR HK HC yB oc kp kb kr e1 yO
   go_upto_region 5 with (fail)
   have u:=bdz wc;obtain⟨c5,c6⟩:=xU.out _ (Lb _ _)
   go_region_held3 (fun Z=>Z.cell? ⟨bp,0,none⟩=some (.string pl)∧Z.cell? ⟨bs,0,none⟩=some (.pointer (some ⟨q,0,none⟩))) (first|assumption|(with_reducible exact xU.out _ u)) (first
    | (go_at_call 155;(with_reducible refine(HL.out _ u).mono ?_);rintro e w5 ⟨rfl,rfl⟩))
   all_goals
    go_wp2
    go_ret
    exact⟨rfl,HZ.out _ u⟩
  ·have yY : ¬(268435456:Int) - (ls:Int)<(pl.size:Int):=by omega
   obtain⟨m,hm⟩:=Ze (addM S s.data.toList ds);have HN:Hid (∀W,Below wc.heap.size wc W->Calls prog 169 #[.pointer (some ⟨q,0,none⟩),.string pl,.slice va len vc] W fun e w'=>e = .returned (.agg (mC m))∧Below wc.heap.size wc w'):=fun W hW =>
    (Qcu W (yE.next hW) pl (by omega) va rb 0 len vc ss (yB.next hW (La _)) (by omega) m (by rw[<-hm,addM,xO,<-xX,Jc])).mono fun e w' z=>⟨z.1,Qa hW z.2⟩
   have yQ:Hid (∀W,Below wc.heap.size wc W->W.cell? ⟨br,0,none⟩=some (.slice va len vc)):=fun W hW=>((show Bk wc br _ _ from kr).next hW).both.1
   simp only[mC] at HN;obtain⟨m0,e0⟩:=Ze m.k;obtain⟨m1,e1⟩:=Ze m.size;obtain⟨m2,e2⟩:=Ze m.items;obtain⟨m3,e3⟩:=Ze m.nodes;obtain⟨md,e4⟩:=Ze m.chain.toNat;rw[e0,e1,e2,e3,e4] at HN;have HE:=Qd (L6 e0 (L6 e1 (L6 e2 (L6 e3 e4))));clear e0 e1 e2 e3 e4
   go_upto_region 5 with (fail)
   have u:=bdz wc;obtain⟨c5,c6⟩:=xU.out _ (Lb _ _)
   go_region_held3 (fun Z=>Z.cell? ⟨bp,0,none⟩=some (.string pl)∧Z.cell? ⟨bs,0,none⟩=some (.pointer (some ⟨q,0,none⟩))) (first|assumption|(with_reducible exact xU.out _ u)) (first
    | (go_at_call 155;(with_reducible refine(HL.out _ u).mono ?_);rintro e w5 ⟨rfl,rfl⟩))
   all_goals
    have c7:=yQ.out _ u
    go_upto_region 8 with (go_at_call 169;(with_reducible refine(HN.out _ u).mono ?_);rintro e w6 ⟨rfl,u6⟩)
    go_upto_region 9 with (fail)
    obtain⟨bm,yJ⟩:=Ze w6.heap.size;have km:((w6.alloc (.cells #[.int .i64 m0,.int .u64 (m1:Int),.int .u64 (m2:Int),.int .u64 (m3:Int),.int .u32 (md:Int)] 239)).alloc (.cells #[.func (.func 170) #[] #[.pointer (some ⟨bs,0,none⟩),.pointer (some ⟨bp,0,none⟩)],.func (.func 172) #[] #[.pointer (some ⟨bs,0,none⟩),.pointer (some ⟨br,0,none⟩)],.func (.func 174) #[] #[.pointer (some ⟨bs,0,none⟩)],.func (.func 175) #[] #[.pointer (some ⟨bs,0,none⟩)],.func (.func 176) #[] #[.pointer (some ⟨bs,0,none⟩),.pointer (some ⟨w6.heap.size,0,none⟩)],.func (.func 178) #[] #[.pointer (some ⟨bs,0,none⟩)]] 54)).heap[w6.heap.size]? = some (.cells #[.int .i64 m0,.int .u64 (m1:Int),.int .u64 (m2:Int),.int .u64 (m3:Int),.int .u32 (md:Int)] 239 (0,0)):=new0 _ _ _;have kl:=new2 w6 (.cells #[.int .i64 m0,.int .u64 (m1:Int),.int .u64 (m2:Int),.int .u64 (m3:Int),.int .u32 (md:Int)] 239) (.cells #[.func (.func 170) #[] #[.pointer (some ⟨bs,0,none⟩),.pointer (some ⟨bp,0,none⟩)],.func (.func 172) #[] #[.pointer (some ⟨bs,0,none⟩),.pointer (some ⟨br,0,none⟩)],.func (.func 174) #[] #[.pointer (some ⟨bs,0,none⟩)],.func (.func 175) #[] #[.pointer (some ⟨bs,0,none⟩)],.func (.func 176) #[] #[.pointer (some ⟨bs,0,none⟩),.pointer (some ⟨w6.heap.size,0,none⟩)],.func (.func 178) #[] #[.pointer (some ⟨bs,0,none⟩)]] 54);have u8:Below w6.heap.size w6 ((w6.alloc (.cells #[.int .i64 m0,.int .u64 (m1:Int),.int .u64 (m2:Int),.int .u64 (m3:Int),.int .u32 (md:Int)] 239)).alloc (.cells #[.func (.func 170) #[] #[.pointer (some ⟨bs,0,none⟩),.pointer (some ⟨bp,0,none⟩)],.func (.func 172) #[] #[.pointer (some ⟨bs,0,none⟩),.pointer (some ⟨br,0,none⟩)],.func (.func 174) #[] #[.pointer (some ⟨bs,0,none⟩)],.func (.func 175) #[] #[.pointer (some ⟨bs,0,none⟩)],.func (.func 176) #[] #[.pointer (some ⟨bs,0,none⟩),.pointer (some ⟨w6.heap.size,0,none⟩)],.func (.func 178) #[] #[.pointer (some ⟨bs,0,none⟩)]] 54)):=bal (bal (Lb _ _) _) _;generalize (w6.alloc (.cells #[.int .i64 m0,.int .u64 (m1:Int),.int .u64 (m2:Int),.int .u64 (m3:Int),.int .u32 (md:Int)] 239)).alloc (.cells #[.func (.func 170) #[] #[.pointer (some ⟨bs,0,none⟩),.pointer (some ⟨bp,0,none⟩)],.func (.func 172) #[] #[.pointer (some ⟨bs,0,none⟩),.pointer (some ⟨br,0,none⟩)],.func (.func 174) #[] #[.pointer (some ⟨bs,0,none⟩)],.func (.func 175) #[] #[.pointer (some ⟨bs,0,none⟩)],.func (.func 176) #[] #[.pointer (some ⟨bs,0,none⟩),.pointer (some ⟨w6.heap.size,0,none⟩)],.func (.func 178) #[] #[.pointer (some ⟨bs,0,none⟩)]] 54)=w8 at *;have ub:Below w.heap.size w w8:=Qa (Qa yH u6) u8;have xT:Below wc.heap.size wc w8:=Qa u6 u8;have h8:Sk w8 q p T D S:=h.next ub;rw[yJ] at km kl ⊢;have xM:=Qd ub;have xL:Hid (∀x,T x->x<w.heap.size):=fun x hx=>h.lt hx
    have yP:w.heap.size<=bs:=N9 HB.out;have yA : ∀ {b:Nat},w2.heap.size<=b->w.heap.size<=b:=fun {b} e=>Lu u1.size e
    have xH:Hid (w.heap.size<=bs∧bs<w8.heap.size∧w.heap.size<=br∧br<w8.heap.size∧w.heap.size<=bm∧bm<w8.heap.size) :=
     ⟨yP,Lx (Bk.lt kb) xT.size,yA lr,Lx (Bk.lt kr) xT.size,by rw[<-yJ];exact(Qa yH u6).size,(Array.getElem?_eq_some_iff.1 km).1⟩
    have nT : ∀b,w.heap.size<=b -> ¬T b:=fun b e ht=>Nk _ (Lx (xL.out b ht) e)
    have xA:Hid (∀W Dj,SkM w8 W q p T Dj S->W.cell? ⟨bs,0,none⟩=some (.pointer (some ⟨q,0,none⟩))∧W.cell? ⟨bp,0,none⟩=some (.string pl)∧W.cell? ⟨br,0,none⟩=some (.slice va len vc)∧(W.cell? ⟨bm,0,none⟩=some (.int .i64 m.k)∧W.cell? ⟨bm,1,none⟩=some (.int .u64 (m.size:Int))∧W.cell? ⟨bm,2,none⟩=some (.int .u64 (m.items:Int))∧W.cell? ⟨bm,3,none⟩=some (.int .u64 (m.nodes:Int))∧W.cell? ⟨bm,4,none⟩=some (.int .u32 (m.chain.toNat:Int)))):=fun W Dj hW=>by
     obtain⟨y0,y1,y2,y3,y4⟩:=Yn km;have nm:=nT bm xH.out.2.2.2.2.1;rw[HE.out.1,HE.out.2.1,HE.out.2.2.1,HE.out.2.2.2.1,HE.out.2.2.2.2];exact⟨hW.cell (Bk.both (Bk.next kb xT)).1 (nT bs yP),hW.cell (Bk.both (Bk.next kp xT)).1 (nT bp (yA lp)),hW.cell (Bk.both (Bk.next kr xT)).1 (nT br (yA lr)),hW.cell y0 nm,hW.cell y1 nm,hW.cell y2 nm,hW.cell y3 nm,hW.cell y4 nm⟩
    have xE:Hid (∀W Dj,SkM w8 W q p T Dj S->W.cell? ⟨bm+1,0,none⟩=some (.func (.func 170) #[] #[.pointer (some ⟨bs,0,none⟩),.pointer (some ⟨bp,0,none⟩)])∧W.cell? ⟨bm+1,1,none⟩=some (.func (.func 172) #[] #[.pointer (some ⟨bs,0,none⟩),.pointer (some ⟨br,0,none⟩)])∧W.cell? ⟨bm+1,2,none⟩=some (.func (.func 174) #[] #[.pointer (some ⟨bs,0,none⟩)])∧W.cell? ⟨bm+1,3,none⟩=some (.func (.func 175) #[] #[.pointer (some ⟨bs,0,none⟩)])∧W.cell? ⟨bm+1,4,none⟩=some (.func (.func 176) #[] #[.pointer (some ⟨bs,0,none⟩),.pointer (some ⟨bm,0,none⟩)])∧W.cell? ⟨bm+1,5,none⟩=some (.func (.func 178) #[] #[.pointer (some ⟨bs,0,none⟩)])):=fun W Dj hW=>by
     have nm:=nT (bm+1) (Lu xH.out.2.2.2.2.1 (I3 _));exact⟨hW.cell (by rw[cell_of_row w8 (bm+1) 0 _ _ (0,0) kl];rfl) nm,hW.cell (by rw[cell_of_row w8 (bm+1) 1 _ _ (0,0) kl];rfl) nm,hW.cell (by rw[cell_of_row w8 (bm+1) 2 _ _ (0,0) kl];rfl) nm,hW.cell (by rw[cell_of_row w8 (bm+1) 3 _ _ (0,0) kl];rfl) nm,hW.cell (by rw[cell_of_row w8 (bm+1) 4 _ _ (0,0) kl];rfl) nm,hW.cell (by rw[cell_of_row w8 (bm+1) 5 _ _ (0,0) kl];rfl) nm⟩
    have xF:Hid (∀W Dj,SkM w8 W q p T Dj S->Rc.RdS W va rb 0 len ss):=fun W Dj hW=>by
     have r8:=yB.next xT (La _);refine⟨r8.hl,r8.ptr,fun j v hv => ?_,r8.sz⟩
     have hj:j<len:=by have:=(List.getElem?_eq_some_iff.1 hv).1;rw[Nc] at this;omega
     have zD:=r8.ptr (by omega)
     exact hW.cell (r8.rng j v hv) (nT rb (yA (by rw[zD] at oc;exact(Ng oc rb rfl).1)))
    have xK:Hid (len<=vc∧len<=1000∧(Rc.Qk ss).length<=1000000):=⟨xR,by omega,by
     have:(Rc.Qk ss).length<=40*len:=by
      rw[<-yN,<-xO];exact Qdf _ _ (fun d hd=>by rw[n2 d hd];exact yL)
     omega⟩
    have yM:m=nxM S.k S.ends S.chain (pay s.data.toList) (Q5 (nn S.ends.length) ds):=hm.symm;have yC:Hid (m.size<18446744073709551616∧m.items<18446744073709551616∧m.nodes<18446744073709551616):=by
     rw[yM];refine⟨show S.ends.length+1<_ by omega,show lst S.ends+(pay s.data.toList).length<_ by rw[pay_len,Qb];omega,show nn (S.ends.length+1)*40<_ by omega⟩
    have yS:Hid (pl.size<=140737488355328):=by show _<=_;omega
    have hA:addA S s.data.toList ds=six S pl.data.toList (Rc.Qk ss) (mrk m):=by unfold addA;rw[xO,hm,<-xX,Jc]
    have yX:refD S s.data.toList ds=0:=by rw[g5,yF,Le hroom]
    have xV:(if (Qz (six S pl.data.toList (Rc.Qk ss) (mrk m)) D).2=0 then ((Qz (six S pl.data.toList (Rc.Qk ss) (mrk m)) D).1,{ S with ends:=S.ends++[m.items],chain:=m.chain },0) else ((Qz (six S pl.data.toList (Rc.Qk ss) (mrk m)) D).1,{ S with lame:=true },(Qz (six S pl.data.toList (Rc.Qk ss) (mrk m)) D).2))=(D',S',r):=by
     rw[<-hR];unfold addD;rw[yX,hA,hm,Le (show ¬((0:Int)≠0) from fun h=>h rfl)]
    have xP:Hid (∀D1 r1,(D1,r1)=Qz (six S pl.data.toList (Rc.Qk ss) (mrk m)) D -> ¬r1=0->D1=D' ∧ { S with lame:=true } = S'∧r1=r):=fun D1 r1 e1 e2=>by
     rw[<-e1,Le e2] at xV;injection xV with a1 a2
     injection a2 with a2 a3
     exact⟨a1,a2,a3⟩
    have yR:Hid (∀D1,(D1,0)=Qz (six S pl.data.toList (Rc.Qk ss) (mrk m)) D->D1=D' ∧ { S with ends:=S.ends++[m.items],chain:=m.chain } = S'∧0=r):=fun D1 e1=>by
     rw[<-e1,Lk rfl] at xV;injection xV with a1 a2
     injection a2 with a2 a3
     exact⟨a1,a2,a3⟩
    have yI:Hid (m.items<=268435456∧S.ends.length<65536):=⟨by rw[yM];show lst S.ends+(pay s.data.toList).length<=_;rw[pay_len,Qb];omega,g3⟩
    have yT:Hid (Rm 7 D):=hrm;have yU:Hid (SkM w8 w8 q p T D S):=SkM.of h8 (Lb _ _);clear h h1 hr xC yE HP HR HK HC xU yQ HN HL yB oc kp kb kr yO km kl u8 ub xT h8 yM hA yX xV hrm hroom yY nT yA yP xO xX zC yN hm u6 u yH uc c5 c6 c7 yJ xR xW lp lr HB HW HF xQ xS hR n1 n2 g1 g2 g3 g4 g5 zB xZ yF;go_wp2
    go_loopg [46] 6 (fun g x wr => ∃(j:Nat) (Dj:DV),j<=6∧g=6 - j∧x = .int .i64 (j:Int)∧Hid (SkM w8 wr q p T Dj S)∧Hid (Rm (7 - j) Dj)∧Hid (Qz ((six S pl.data.toList (Rc.Qk ss) (mrk m)).drop j) Dj=Qz (six S pl.data.toList (Rc.Qk ss) (mrk m)) D))
    case atStart=>go_light;exact⟨0,D,by decide,rfl,rfl,yU,yT,rfl⟩
    case round =>
     obtain⟨j,Dj,hj,rfl,rfl,HS,xG,HI⟩:=hrel;have HI:=HI.out;clear yU yT
     rcases(show j=0∨j=1∨j=2∨j=3∨j=4∨j=5∨j=6 by omega) with rfl|rfl|rfl|rfl|rfl|rfl|rfl
     -- <L
     ·have xD:Rm 7 Dj:=xG.out;obtain⟨T1,hk,hT,hu⟩:=HS.out;have nT : ∀b,w.heap.size<=b->b<w8.heap.size -> ¬T1 b:=fun b h1 h2 ht=>by
       rcases hT b ht with e|e
       ·have:=xL.out b e;omega
       ·omega
      obtain⟨D1,r1,xB⟩ : ∃D1 r1,wrD Dj nmI (lst S.ends:Int) pl.data.toList=(D1,r1):=⟨_,_,rfl⟩;have HA:Hid (Calls prog 170 #[.pointer (some ⟨bs,0,none⟩),.pointer (some ⟨bp,0,none⟩)] wr fun e w'=>e = .returned (.int .i64 r1)∧SkM w8 w' q p T D1 S):=(Qi1 wr hk xD.rmy bs bp (xA.out wr _ HS.out).1 pl (xA.out wr _ HS.out).2.1 yS.out D1 r1 xB).mono fun e w' z=>⟨z.1,QS hT hu z.2⟩
      have xC:Rm 6 D1:=by
       have:Rm 6 (wrD Dj nmI (lst S.ends:Int) pl.data.toList).1:=QkP _ _ _ (hk.sz _) xD;rw[xB] at this;exact this
      have hE:Qz ((six S pl.data.toList (Rc.Qk ss) (mrk m)).drop 0) Dj=if r1=0 then Qz ((six S pl.data.toList (Rc.Qk ss) (mrk m)).drop 1) D1 else (D1,r1):=by
       show Qz ((fun D=>wrD D nmI (lst S.ends:Int) pl.data.toList)::((six S pl.data.toList (Rc.Qk ss) (mrk m)).drop 1)) Dj=_
       simp only[Qz,xB]
      rw[hE] at HI;have cl:=(xE.out wr _ HS.out).1;have hz:((0:Nat):Int)<6:=by decide
      clear hE nT hT hu hk xD xG xB
      by_cases h0:r1=0
      ·subst h0;rw[Lk rfl] at HI;have xI:=Qd HI;have xJ:=Qd xC;clear HI xC HS xA xF xE
       go_wp2_with (go_at_call 170;(with_reducible refine HA.out.mono ?_);rintro e w9 ⟨rfl,t9⟩)
       go_roundg 5
       case rel=>go_light;exact⟨1,D1,by decide,rfl,by first|rfl|go_num,t9,xJ,xI⟩
       case measure=>go_light;decide
      ·rw[Le h0] at HI;have HZ:Hid (∀W,SkM w8 W q p T D1 S->(W.cell? ⟨bs,0,none⟩=some (.pointer (some ⟨q,0,none⟩))∧W.cell? ⟨q,4,none⟩=some (.bool S.lame)∧W.frozen? ⟨q,4,none⟩=false)∧SkM w (W.setCell ⟨q,4,none⟩ (.bool true)) q p T D' S'∧r1=r):=fun W hW=>by
        obtain⟨⟨l1,l2⟩,l3⟩:=hW.limp;obtain⟨z1,z2,z3⟩:=xP.out D1 r1 HI h0;exact⟨⟨(xA.out W _ hW).1,l1,l2⟩,by rw[<-z1,<-z2];exact l3.first xM.out,z3⟩
       have xY:(r1 != 0)=true:=by simp[h0]
       clear HI xC HS xA xF xE
       go_wp2_with (go_at_call 170;(with_reducible refine HA.out.mono ?_);rintro e w9 ⟨rfl,t9⟩;have ⟨y0,y1,y2⟩:=(HZ.out _ t9).1)
       go_ret
       obtain⟨z2,z3⟩:=(HZ.out _ t9).2;subst z3;exact⟨rfl,z2⟩
     ·have xD:Rm 6 Dj:=xG.out;obtain⟨T1,hk,hT,hu⟩:=HS.out;have nT : ∀b,w.heap.size<=b->b<w8.heap.size -> ¬T1 b:=fun b h1 h2 ht=>by
       rcases hT b ht with e|e
       ·have:=xL.out b e;omega
       ·omega
      obtain⟨D1,r1,xB⟩ : ∃D1 r1,wrD Dj nmN ((nn S.ends.length*40:Nat):Int) (Rc.Qk ss)=(D1,r1):=⟨_,_,rfl⟩;have HA:Hid (Calls prog 172 #[.pointer (some ⟨bs,0,none⟩),.pointer (some ⟨br,0,none⟩)] wr fun e w'=>e = .returned (.int .i64 r1)∧SkM w8 w' q p T D1 S):=(Qi2 wr hk xD.rmy bs br (xA.out wr _ HS.out).1 va rb 0 len vc ss (xA.out wr _ HS.out).2.2.1 (xF.out wr _ HS.out) xK.out.1 xK.out.2.1 xK.out.2.2 (nT bs xH.out.1 xH.out.2.1) (nT br xH.out.2.2.1 xH.out.2.2.2.1) D1 r1 xB).mono fun e w' z=>⟨z.1,QS hT hu z.2⟩
      have xC:Rm 5 D1:=by
       have:Rm 5 (wrD Dj nmN ((nn S.ends.length*40:Nat):Int) (Rc.Qk ss)).1:=QkP _ _ _ (hk.sz _) xD;rw[xB] at this;exact this
      have hE:Qz ((six S pl.data.toList (Rc.Qk ss) (mrk m)).drop 1) Dj=if r1=0 then Qz ((six S pl.data.toList (Rc.Qk ss) (mrk m)).drop 2) D1 else (D1,r1):=by
       show Qz ((fun D=>wrD D nmN ((nn S.ends.length*40:Nat):Int) (Rc.Qk ss))::((six S pl.data.toList (Rc.Qk ss) (mrk m)).drop 2)) Dj=_
       simp only[Qz,xB]
      rw[hE] at HI;have cl:=(xE.out wr _ HS.out).2.1;have hz:((1:Nat):Int)<6:=by decide
      clear hE nT hT hu hk xD xG xB
      by_cases h0:r1=0
      ·subst h0;rw[Lk rfl] at HI;have xI:=Qd HI;have xJ:=Qd xC;clear HI xC HS xA xF xE
       go_wp2_with (go_at_call 172;(with_reducible refine HA.out.mono ?_);rintro e w9 ⟨rfl,t9⟩)
       go_roundg 4
       case rel=>go_light;exact⟨2,D1,by decide,rfl,by first|rfl|go_num,t9,xJ,xI⟩
       case measure=>go_light;decide
      ·rw[Le h0] at HI;have HZ:Hid (∀W,SkM w8 W q p T D1 S->(W.cell? ⟨bs,0,none⟩=some (.pointer (some ⟨q,0,none⟩))∧W.cell? ⟨q,4,none⟩=some (.bool S.lame)∧W.frozen? ⟨q,4,none⟩=false)∧SkM w (W.setCell ⟨q,4,none⟩ (.bool true)) q p T D' S'∧r1=r):=fun W hW=>by
        obtain⟨⟨l1,l2⟩,l3⟩:=hW.limp;obtain⟨z1,z2,z3⟩:=xP.out D1 r1 HI h0;exact⟨⟨(xA.out W _ hW).1,l1,l2⟩,by rw[<-z1,<-z2];exact l3.first xM.out,z3⟩
       have xY:(r1 != 0)=true:=by simp[h0]
       clear HI xC HS xA xF xE
       go_wp2_with (go_at_call 172;(with_reducible refine HA.out.mono ?_);rintro e w9 ⟨rfl,t9⟩;have ⟨y0,y1,y2⟩:=(HZ.out _ t9).1)
       go_ret
       obtain⟨z2,z3⟩:=(HZ.out _ t9).2;subst z3;exact⟨rfl,z2⟩
     ·have xD:Rm 5 Dj:=xG.out;obtain⟨T1,hk,hT,hu⟩:=HS.out;have nT : ∀b,w.heap.size<=b->b<w8.heap.size -> ¬T1 b:=fun b h1 h2 ht=>by
       rcases hT b ht with e|e
       ·have:=xL.out b e;omega
       ·omega
      obtain⟨D1,r1,xB⟩ : ∃D1 r1,Q1 Dj nmI=(D1,r1):=⟨_,_,rfl⟩;have HA:Hid (Calls prog 174 #[.pointer (some ⟨bs,0,none⟩)] wr fun e w'=>e = .returned (.int .i64 r1)∧SkM w8 w' q p T D1 S):=(Qi3 wr hk xD.rmy bs (xA.out wr _ HS.out).1 D1 r1 xB).mono fun e w' z=>⟨z.1,QS hT hu z.2⟩
      have xC:Rm 4 D1:=by
       have:Rm 4 (Q1 Dj nmI).1:=Qax _ (hk.sz _) xD;rw[xB] at this;exact this
      have hE:Qz ((six S pl.data.toList (Rc.Qk ss) (mrk m)).drop 2) Dj=if r1=0 then Qz ((six S pl.data.toList (Rc.Qk ss) (mrk m)).drop 3) D1 else (D1,r1):=by
       show Qz ((fun D=>Q1 D nmI)::((six S pl.data.toList (Rc.Qk ss) (mrk m)).drop 3)) Dj=_
       simp only[Qz,xB]
      rw[hE] at HI;have cl:=(xE.out wr _ HS.out).2.2.1;have hz:((2:Nat):Int)<6:=by decide
      clear hE nT hT hu hk xD xG xB
      by_cases h0:r1=0
      ·subst h0;rw[Lk rfl] at HI;have xI:=Qd HI;have xJ:=Qd xC;clear HI xC HS xA xF xE
       go_wp2_with (go_at_call 174;(with_reducible refine HA.out.mono ?_);rintro e w9 ⟨rfl,t9⟩)
       go_roundg 3
       case rel=>go_light;exact⟨3,D1,by decide,rfl,by first|rfl|go_num,t9,xJ,xI⟩
       case measure=>go_light;decide
      ·rw[Le h0] at HI;have HZ:Hid (∀W,SkM w8 W q p T D1 S->(W.cell? ⟨bs,0,none⟩=some (.pointer (some ⟨q,0,none⟩))∧W.cell? ⟨q,4,none⟩=some (.bool S.lame)∧W.frozen? ⟨q,4,none⟩=false)∧SkM w (W.setCell ⟨q,4,none⟩ (.bool true)) q p T D' S'∧r1=r):=fun W hW=>by
        obtain⟨⟨l1,l2⟩,l3⟩:=hW.limp;obtain⟨z1,z2,z3⟩:=xP.out D1 r1 HI h0;exact⟨⟨(xA.out W _ hW).1,l1,l2⟩,by rw[<-z1,<-z2];exact l3.first xM.out,z3⟩
       have xY:(r1 != 0)=true:=by simp[h0]
       clear HI xC HS xA xF xE
       go_wp2_with (go_at_call 174;(with_reducible refine HA.out.mono ?_);rintro e w9 ⟨rfl,t9⟩;have ⟨y0,y1,y2⟩:=(HZ.out _ t9).1)
       go_ret
       obtain⟨z2,z3⟩:=(HZ.out _ t9).2;subst z3;exact⟨rfl,z2⟩
     ·have xD:Rm 4 Dj:=xG.out;obtain⟨T1,hk,hT,hu⟩:=HS.out;have nT : ∀b,w.heap.size<=b->b<w8.heap.size -> ¬T1 b:=fun b h1 h2 ht=>by
       rcases hT b ht with e|e
       ·have:=xL.out b e;omega
       ·omega
      obtain⟨D1,r1,xB⟩ : ∃D1 r1,Q1 Dj nmN=(D1,r1):=⟨_,_,rfl⟩;have HA:Hid (Calls prog 175 #[.pointer (some ⟨bs,0,none⟩)] wr fun e w'=>e = .returned (.int .i64 r1)∧SkM w8 w' q p T D1 S):=(Qi4 wr hk xD.rmy bs (xA.out wr _ HS.out).1 D1 r1 xB).mono fun e w' z=>⟨z.1,QS hT hu z.2⟩
      have xC:Rm 3 D1:=by
       have:Rm 3 (Q1 Dj nmN).1:=Qax _ (hk.sz _) xD;rw[xB] at this;exact this
      have hE:Qz ((six S pl.data.toList (Rc.Qk ss) (mrk m)).drop 3) Dj=if r1=0 then Qz ((six S pl.data.toList (Rc.Qk ss) (mrk m)).drop 4) D1 else (D1,r1):=by
       show Qz ((fun D=>Q1 D nmN)::((six S pl.data.toList (Rc.Qk ss) (mrk m)).drop 4)) Dj=_
       simp only[Qz,xB]
      rw[hE] at HI;have cl:=(xE.out wr _ HS.out).2.2.2.1;have hz:((3:Nat):Int)<6:=by decide
      clear hE nT hT hu hk xD xG xB
      by_cases h0:r1=0
      ·subst h0;rw[Lk rfl] at HI;have xI:=Qd HI;have xJ:=Qd xC;clear HI xC HS xA xF xE
       go_wp2_with (go_at_call 175;(with_reducible refine HA.out.mono ?_);rintro e w9 ⟨rfl,t9⟩)
       go_roundg 2
       case rel=>go_light;exact⟨4,D1,by decide,rfl,by first|rfl|go_num,t9,xJ,xI⟩
       case measure=>go_light;decide
      ·rw[Le h0] at HI;have HZ:Hid (∀W,SkM w8 W q p T D1 S->(W.cell? ⟨bs,0,none⟩=some (.pointer (some ⟨q,0,none⟩))∧W.cell? ⟨q,4,none⟩=some (.bool S.lame)∧W.frozen? ⟨q,4,none⟩=false)∧SkM w (W.setCell ⟨q,4,none⟩ (.bool true)) q p T D' S'∧r1=r):=fun W hW=>by
        obtain⟨⟨l1,l2⟩,l3⟩:=hW.limp;obtain⟨z1,z2,z3⟩:=xP.out D1 r1 HI h0;exact⟨⟨(xA.out W _ hW).1,l1,l2⟩,by rw[<-z1,<-z2];exact l3.first xM.out,z3⟩
       have xY:(r1 != 0)=true:=by simp[h0]
       clear HI xC HS xA xF xE
       go_wp2_with (go_at_call 175;(with_reducible refine HA.out.mono ?_);rintro e w9 ⟨rfl,t9⟩;have ⟨y0,y1,y2⟩:=(HZ.out _ t9).1)
       go_ret
       obtain⟨z2,z3⟩:=(HZ.out _ t9).2;subst z3;exact⟨rfl,z2⟩
     ·have xD:Rm 3 Dj:=xG.out;obtain⟨T1,hk,hT,hu⟩:=HS.out;have nT : ∀b,w.heap.size<=b->b<w8.heap.size -> ¬T1 b:=fun b h1 h2 ht=>by
       rcases hT b ht with e|e
       ·have:=xL.out b e;omega
       ·omega
      obtain⟨D1,r1,xB⟩ : ∃D1 r1,wrD Dj nmM ((S.ends.length*64:Nat):Int) (mrk m)=(D1,r1):=⟨_,_,rfl⟩;have HA:Hid (Calls prog 176 #[.pointer (some ⟨bs,0,none⟩),.pointer (some ⟨bm,0,none⟩)] wr fun e w'=>e = .returned (.int .i64 r1)∧SkM w8 w' q p T D1 S):=(Qi5 wr hk xD.rmy bs bm (xA.out wr _ HS.out).1 m yC.out.1 yC.out.2.1 yC.out.2.2 (xA.out wr _ HS.out).2.2.2 (nT bs xH.out.1 xH.out.2.1) (nT bm xH.out.2.2.2.2.1 xH.out.2.2.2.2.2) D1 r1 xB).mono fun e w' z=>⟨z.1,QS hT hu z.2⟩
      have xC:Rm 2 D1:=by
       have:Rm 2 (wrD Dj nmM ((S.ends.length*64:Nat):Int) (mrk m)).1:=QkP _ _ _ (hk.sz _) xD;rw[xB] at this;exact this
      have hE:Qz ((six S pl.data.toList (Rc.Qk ss) (mrk m)).drop 4) Dj=if r1=0 then Qz ((six S pl.data.toList (Rc.Qk ss) (mrk m)).drop 5) D1 else (D1,r1):=by
       show Qz ((fun D=>wrD D nmM ((S.ends.length*64:Nat):Int) (mrk m))::((six S pl.data.toList (Rc.Qk ss) (mrk m)).drop 5)) Dj=_
       simp only[Qz,xB]
      rw[hE] at HI;have cl:=(xE.out wr _ HS.out).2.2.2.2.1;have hz:((4:Nat):Int)<6:=by decide
      clear hE nT hT hu hk xD xG xB
      by_cases h0:r1=0
      ·subst h0;rw[Lk rfl] at HI;have xI:=Qd HI;have xJ:=Qd xC;clear HI xC HS xA xF xE
       go_wp2_with (go_at_call 176;(with_reducible refine HA.out.mono ?_);rintro e w9 ⟨rfl,t9⟩)
       go_roundg 1
       case rel=>go_light;exact⟨5,D1,by decide,rfl,by first|rfl|go_num,t9,xJ,xI⟩
       case measure=>go_light;decide
      ·rw[Le h0] at HI;have HZ:Hid (∀W,SkM w8 W q p T D1 S->(W.cell? ⟨bs,0,none⟩=some (.pointer (some ⟨q,0,none⟩))∧W.cell? ⟨q,4,none⟩=some (.bool S.lame)∧W.frozen? ⟨q,4,none⟩=false)∧SkM w (W.setCell ⟨q,4,none⟩ (.bool true)) q p T D' S'∧r1=r):=fun W hW=>by
        obtain⟨⟨l1,l2⟩,l3⟩:=hW.limp;obtain⟨z1,z2,z3⟩:=xP.out D1 r1 HI h0;exact⟨⟨(xA.out W _ hW).1,l1,l2⟩,by rw[<-z1,<-z2];exact l3.first xM.out,z3⟩
       have xY:(r1 != 0)=true:=by simp[h0]
       clear HI xC HS xA xF xE
       go_wp2_with (go_at_call 176;(with_reducible refine HA.out.mono ?_);rintro e w9 ⟨rfl,t9⟩;have ⟨y0,y1,y2⟩:=(HZ.out _ t9).1)
       go_ret
       obtain⟨z2,z3⟩:=(HZ.out _ t9).2;subst z3;exact⟨rfl,z2⟩
     ·have xD:Rm 2 Dj:=xG.out;obtain⟨T1,hk,hT,hu⟩:=HS.out;have nT : ∀b,w.heap.size<=b->b<w8.heap.size -> ¬T1 b:=fun b h1 h2 ht=>by
       rcases hT b ht with e|e
       ·have:=xL.out b e;omega
       ·omega
      obtain⟨D1,r1,xB⟩ : ∃D1 r1,Q1 Dj nmM=(D1,r1):=⟨_,_,rfl⟩;have HA:Hid (Calls prog 178 #[.pointer (some ⟨bs,0,none⟩)] wr fun e w'=>e = .returned (.int .i64 r1)∧SkM w8 w' q p T D1 S):=(Qi6 wr hk xD.rmy bs (xA.out wr _ HS.out).1 D1 r1 xB).mono fun e w' z=>⟨z.1,QS hT hu z.2⟩
      have xC:Rm 1 D1:=by
       have:Rm 1 (Q1 Dj nmM).1:=Qax _ (hk.sz _) xD;rw[xB] at this;exact this
      have hE:Qz ((six S pl.data.toList (Rc.Qk ss) (mrk m)).drop 5) Dj=if r1=0 then Qz ((six S pl.data.toList (Rc.Qk ss) (mrk m)).drop 6) D1 else (D1,r1):=by
       show Qz ((fun D=>Q1 D nmM)::((six S pl.data.toList (Rc.Qk ss) (mrk m)).drop 6)) Dj=_
       simp only[Qz,xB]
      rw[hE] at HI;have cl:=(xE.out wr _ HS.out).2.2.2.2.2;have hz:((5:Nat):Int)<6:=by decide
      clear hE nT hT hu hk xD xG xB
      by_cases h0:r1=0
      ·subst h0;rw[Lk rfl] at HI;have xI:=Qd HI;have xJ:=Qd xC;clear HI xC HS xA xF xE
       go_wp2_with (go_at_call 178;(with_reducible refine HA.out.mono ?_);rintro e w9 ⟨rfl,t9⟩)
       go_roundg 0
       case rel=>go_light;exact⟨6,D1,by decide,rfl,by first|rfl|go_num,t9,xJ,xI⟩
       case measure=>go_light;decide
      ·rw[Le h0] at HI;have HZ:Hid (∀W,SkM w8 W q p T D1 S->(W.cell? ⟨bs,0,none⟩=some (.pointer (some ⟨q,0,none⟩))∧W.cell? ⟨q,4,none⟩=some (.bool S.lame)∧W.frozen? ⟨q,4,none⟩=false)∧SkM w (W.setCell ⟨q,4,none⟩ (.bool true)) q p T D' S'∧r1=r):=fun W hW=>by
        obtain⟨⟨l1,l2⟩,l3⟩:=hW.limp;obtain⟨z1,z2,z3⟩:=xP.out D1 r1 HI h0;exact⟨⟨(xA.out W _ hW).1,l1,l2⟩,by rw[<-z1,<-z2];exact l3.first xM.out,z3⟩
       have xY:(r1 != 0)=true:=by simp[h0]
       clear HI xC HS xA xF xE
       go_wp2_with (go_at_call 178;(with_reducible refine HA.out.mono ?_);rintro e w9 ⟨rfl,t9⟩;have ⟨y0,y1,y2⟩:=(HZ.out _ t9).1)
       go_ret
       obtain⟨z2,z3⟩:=(HZ.out _ t9).2;subst z3;exact⟨rfl,z2⟩
     -- L>
     ·have yD:=Qd (yR.out Dj HI);obtain⟨T1,hk,hT,hu⟩:=HS.out;have HA:Hid (Calls prog 179 #[.pointer (some ⟨q,0,none⟩),.agg #[.int .i64 m.k,.int .u64 (m.size:Int),.int .u64 (m.items:Int),.int .u64 (m.nodes:Int),.int .u32 (m.chain.toNat:Int)]] wr fun e w'=>e = .returned (.tuple #[])∧SkM w w' q p T D' S'∧0=r):=(Qac wr hk m yI.out.1 yI.out.2).mono fun e w' z=>⟨z.1,by rw[<-yD.out.1,<-yD.out.2.1];exact(QS hT hu z.2).first xM.out,yD.out.2.2⟩
      obtain⟨y0,_,_,y1,y2,y3,y4,y5⟩:=xA.out wr _ HS.out;have hz : ¬((6:Nat):Int)<6:=by decide
      clear HI hT hu hk yD xA xF xE HS xG xP yR yI yC yS xK xH xL xM HE
      go_wp2_with (go_at_call 179;(with_reducible refine HA.out.mono ?_);rintro e w9 ⟨rfl,t9,t0⟩)
      go_ret
      subst t0;exact⟨rfl,t9⟩
 ·have e1:addD D S s.data.toList ds=(D,S,re):=by
   unfold addD;rw[Qou (by rw[xS];exact h0),xS,Lk h0]
  rw[e1] at hR;injection hR with e2 e3
  injection e3 with e3 e4
  subst e2 e3 e4;have HZ:=Qd (SkM.of h u1);clear h hr xS hrm e1 k1
  go_enter func100,ntmps100
  go_upto_region 1 with (fail)
  rw[HW.out,HB.out]
  go_wp2_with (go_at_call 166;(with_reducible refine HF.out.mono ?_);rintro e w2 ⟨rfl,rfl⟩)
  go_ret
  exact⟨rfl,HZ.out⟩
end
end St
end Go.Proofs.YtoblgjledefdbaaGreatDoor
