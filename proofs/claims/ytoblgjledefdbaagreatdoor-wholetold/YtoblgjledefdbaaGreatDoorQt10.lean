/- Own work. -/
import Derived.Test.YtoblgjledefdbaaGreatDoorQt09
set_option maxRecDepth 100000
set_option maxHeartbeats 4000000
namespace Go.Proofs.YtoblgjledefdbaaGreatDoor
open Go.RowKit
attribute [local go_sem ↓] Go.wp_at_zero Go.wp_at_succ
open Go.Proofs.Tryz
namespace St
open Rc
section
variable {q p:Nat} {T:Nat->Prop} {D:DV} {S:SV}
theorem QpT{item:List UInt8}{ds:LB}(h:¬refE S item ds=0):refD S item ds=refE S item ds:=by
 unfold refD;unfold refE at h ⊢
 split
 ·rfl
 ·rename_i h1
  rw[Le h1] at h
  split
  ·rfl
  ·rename_i h2
   rw[Le h2] at h
   split
   ·rfl
   ·rename_i h3
    rw[Le h3] at h
    split
    ·rfl
    ·rename_i h4
     rw[Le h4] at h;exact absurd rfl h
theorem QnY{item:List UInt8}{ds:LB}(h:refE S item ds=0):S.lame=false∧item.length<=1048576∧S.ends.length<65536∧nxt S ds=true∧refD S item ds=if 268435456<lst S.ends+(item.length+8) then 172 else 0:=by
 unfold refD;unfold refE at h
 by_cases h1:S.lame=true
 ·rw[Lf h1] at h;cases h
 ·rw[Le h1] at h ⊢
  by_cases h2:1048576<item.length
  ·rw[Lf h2] at h;cases h
  ·rw[Le h2] at h ⊢
   by_cases h3:65536<=S.ends.length
   ·rw[Lf h3] at h;cases h
   ·rw[Le h3] at h ⊢
    by_cases h4:nxt S ds=false
    ·rw[Lf h4] at h;cases h
    ·rw[Le h4];exact⟨Bool.eq_false_iff.2 h1,by omega,by omega,by simpa using h4,rfl⟩
def Ad1(w wx:World)(bs q:Nat)(v8 v9:Value)(pl:BA)(ss:LB):Prop :=
 ∃bp br va vc n,v8=Pq bp∧v9=Pq br∧Bl w wx∧wx.heap[bs]? = some (.cells #[Pq q] 99 (0,0))∧wx.heap[bp]? = some (.cells #[.string pl] 9 (0,0))∧wx.heap[br]? = some (.cells #[.slice va n vc] 22 (0,0))∧w.heap.size<=bp∧w.heap.size<=br∧Qh wx w.heap.size (.slice va n vc) ss
theorem QdQ(p:Nat)(ds:LB)(h:∀d∈ds,d.size<=32):(Rc.Qj (QV p ds)).length<=40*(QV p ds).length:=by
 suffices hh:∀l:LB,(∀x∈l,x.size<=40)->(Rc.Qj l).length<=40*l.length from hh _ fun x hx=>by
  unfold QV at hx;obtain⟨i,d,hd,rfl⟩:=List.mem_mapIdx.1 hx;rw[YA,Qam _ _ (by rw[Qb];exact h _ (L8 _))]
  omega
 intro l
 induction l with
 | nil=>intro _;simp[Rc.Qj]
 | cons x l ih=>
  intro hl;have h1:=ih fun y hy=>hl y (LV _ hy)
  have h2:=hl x (by simp)
  have h3:Rc.Qj (x::l)=x.data.toList++Rc.Qj l:=by simp[Rc.Qj]
  rw[h3,Lc,LG,Qb];omega
section
variable {w w4:World} {bs q b8 b9 n vc:Nat} {va:OA} {pl:BA} {ss:LB} {x y:Value}
theorem Qf5(u:Bl w w4)(hl:bs<w.heap.size)(hb:Bk w4 bs (Pq q) 99)(a:Bk w4 b8 x 9)(a':Bk w4 b9 y 22)(h8:w.heap.size<=b8)(h9:w.heap.size<=b9)(hne:b8≠b9)
  (p8:∀g,(Value.slice va n vc).ownBlock=some g->g≠b8) (p9:∀g,(Value.slice va n vc).ownBlock=some g->g≠b9) (o:Qh w4 w.heap.size (.slice va n vc) ss):Ad1 w ((w4.setCell ⟨b8,0,none⟩ (.string pl)).setCell ⟨b9,0,none⟩ (.slice va n vc)) bs q (Pq b8) (Pq b9) pl ss :=
 ⟨b8,b9,va,vc,n,rfl,rfl,(u.setCell h8 _).setCell h9 _,(hb.other (by omega) _).other (by omega) _,(a.put _).other hne _,(a'.other hne.symm _).put _,h8,h9,Qy o (fun g hg=>(Below.heap_setCell _ _ _ _ (p9 g hg)).trans (Below.heap_setCell _ _ _ _ (p8 g hg)))⟩
theorem QO{B B':Nat}{v:Value}(o:Qh w B v ss)(h:B'<=B):Qh w B' v ss:=World.ownsRow.mono o h
theorem Qqa(w:World)(o o2:Obj):w.heap.size+1<((w.alloc o).alloc o2).heap.size:=by rw[Y6,Y6];omega
theorem Qo1{B:Nat}(o:Qh w4 B (.slice va n vc) ss):∀g,(Value.slice va n vc).ownBlock=some g->g≠w4.heap.size:=fun g hg e=>by
 have:=(LO o g hg).2;omega
theorem QeN(u:Bl w w4)(hl:bs<w.heap.size)(hb:Bk w4 bs (Pq q) 99)(a:Bk w4 b8 x 9)(h8:w.heap.size<=b8)
  (p8:∀g,(Value.slice va n vc).ownBlock=some g->g≠b8) (o:Qh w4 w.heap.size (.slice va n vc) ss):Ad1 w (((w4.alloc (.cells #[y] 22)).setCell ⟨b8,0,none⟩ (.string pl)).setCell ⟨w4.heap.size,0,none⟩ (.slice va n vc)) bs q (Pq b8) (Pq w4.heap.size) pl ss :=
 Qf5 (bal u _) hl (hb.al _) (a.al _) (Jp w4 y _) h8 u.size (by have:=a.lt;omega) p8 (Qo1 o) (YD o _)
theorem Qha(u:Bl w w4)(hl:bs<w.heap.size)(hb:Bk w4 bs (Pq q) 99)(a:Bk w4 b9 x 22)(h9:w.heap.size<=b9)
  (p9:∀g,(Value.slice va n vc).ownBlock=some g->g≠b9) (o:Qh w4 w.heap.size (.slice va n vc) ss):Ad1 w ((w4.alloc (.cells #[.string pl] 9)).setCell ⟨b9,0,none⟩ (.slice va n vc)) bs q (Pq w4.heap.size) (Pq b9) pl ss :=
 ⟨w4.heap.size,b9,va,vc,n,rfl,rfl,(bal u _).setCell h9 _,(hb.al _).other (by omega) _,(Jp w4 _ _).other (by have:=a.lt;omega) _,(a.al _).put _,u.size,h9,Qy (YD o _) (fun g hg=>Below.heap_setCell _ _ _ _ (p9 g hg))⟩
theorem Qmw(u:Bl w w4)(hb:Bk w4 bs (Pq q) 99)(o:Qh w4 w.heap.size (.slice va n vc) ss):Ad1 w ((w4.alloc (.cells #[.string pl] 9)).alloc (.cells #[.slice va n vc] 22)) bs q (Pq w4.heap.size) (.pointer (some ⟨w4.heap.size+1,0,none⟩)) pl ss :=
 ⟨w4.heap.size,w4.heap.size+1,va,vc,n,rfl,rfl,bal (bal u _) _,(hb.al _).al _,(Jp w4 _ _).al _,new2 _ _ _,u.size,by have:=u.size;omega,YD (YD o _) _⟩
theorem QjH(u:Bl w w4)(hb:Bk w4 bs (Pq q) 99)(o:Qh w4 w.heap.size (.slice va n vc) ss):Ad1 w ((w4.alloc (.cells #[.slice va n vc] 22)).alloc (.cells #[.string pl] 9)) bs q (.pointer (some ⟨w4.heap.size+1,0,none⟩)) (Pq w4.heap.size) pl ss :=
 ⟨w4.heap.size+1,w4.heap.size,va,vc,n,rfl,rfl,bal (bal u _) _,(hb.al _).al _,new2 _ _ _,(Jp w4 _ _).al _,by have:=u.size;omega,u.size,YD (YD o _) _⟩
end
theorem OZ(w:World)(h:Sk w q p T D S)(hrm:Rm 7 D)(s:BA)(hs:s.size<=9223372036854775807)(ao:OA)(b off len cap:Nat)(ds:LB)(hr:RdS w ao b off len ds)(hmx:len<=9223372036854775807)(D':DV)(S':SV)(r:Int)(hR:Uy D S s.data.toList ds=(D',S',r)) :
  Calls prog 100 #[Pq q,.string s,.slice ao len cap] w fun e w'=>e= .returned (.int .i64 r)∧SkM w w' q p T D' S':=by
 obtain⟨w1,yG⟩:=Ze (w.alloc (.cells #[Pq q] 99));have u1:Bl w w1:=by rw[<-yG];exact bal (Lb _ _) _
 obtain⟨bs,yK⟩:=Ze w.heap.size;have k1:w1.heap[bs]? = some (.cells #[Pq q] 99 (0,0)):=by rw[<-yG,<-yK];exact Yc _ _
 have HC:Hid (∀W,Bl w1 W->W.cell? ⟨bs,0,none⟩=some (Pq q)):=fun W hW=>by
  rw[cell_of_row W bs 0 _ _ (0,0) ((hW.block bs (Array.getElem?_eq_some_iff.1 k1).1).trans k1)];rfl
 have HK:Hid (∀W,Bl w1 W->Bk W bs (Pq q) 99):=fun W hW=>(hW.block bs (Array.getElem?_eq_some_iff.1 k1).1).trans k1
 have xQ:Hid (bs<w1.heap.size):=(Array.getElem?_eq_some_iff.1 k1).1
 have c1:=HC.out w1 (Lb _ _);have HW:=Qc yG;have HB:=Qc yK;clear yG yK;obtain⟨re,xS⟩:=Ze (refE S s.data.toList ds);have HF:=Qc (QfF w1 (h.next u1) s hs ao b off len cap ds (hr.next u1 (La _)) hmx re xS)
 by_cases h0:re=0
 ·subst h0;obtain⟨g1,g2,g3,g4,g5⟩:=QnY xS;rw[Qb] at g2 g5;obtain⟨n1,n2⟩:=(Qbz S ds).1 g4;obtain⟨zG,yL,hf,_,_,zA⟩:=h.small;have zB:=Us S.ends.length hf;have h1:=h.next u1;have xC:=hr.next u1 (La _);have yZ:=hr.hl;obtain⟨pl,xX⟩:=Ze (tx (pay s.data.toList));obtain⟨ss,xO⟩:=Ze (QV (nn S.ends.length) ds);have HP:Hid (∀W,Bl w1 W->Calls prog 167 #[.string s] W fun e w'=>e= .returned (.string pl)∧Bl w1 w'∧Bl W w'):=fun W hW=>(Qft W s hs pl (by rw[payS,Qb,Lf g2];exact xX)).mono fun e w' z=>⟨z.1,Qa hW z.2,z.2⟩
  have HR:Hid (∀W,Bl w1 W->Calls prog 168 #[Pq q,.slice ao len cap] W fun e w'=> ∃va vc,e= .returned (.slice va len vc)∧Qh w' W.heap.size (.slice va len vc) ss∧Bl w1 w'∧Bl W w'):=fun W hW=>
   (Qd7 W (h1.next hW) ao b off len cap ds (xC.next hW (La _)) (by omega) (fun d hd=>by rw[n2 d hd];exact yL)).mono fun e w' z=>by
    obtain⟨v,z1,z2,z3⟩:=z;rw[xO] at z2;obtain⟨va,vc,rfl⟩:=Qu z2;have e5:ss.length=len:=by rw[<-xO,JU];exact yZ
    rw[e5] at z1 z2;exact⟨va,vc,z1,z2,Qa hW z3,z3⟩
  go_enter func100,ntmps100
  go_upto_region 1 with (fail)
  rw[HW.out,HB.out]
  go_upto_region 4 with (go_at_call 166;(with_reducible refine HF.out.mono ?_);rintro e w2 ⟨rfl,rfl⟩)
  go_cut [8,9] (fun v8 v9 wx=>Ad1 w2 wx bs q v8 v9 pl ss)
  case first=>
   -- <A
   have u:=bdz w2;clear HF HW HB hR xS g1 g2 g3 g4 g5 n1 n2 hrm hr xC h h1;have zE:=fun o=>HC.out _ (bal (Lb _ w2) o)
   have zF:=fun o o2=>HC.out _ (bal (bal (Lb _ w2) o) o2)
   go_region_with (first
    | (go_at_call 167;first
     | ((with_reducible refine(HP.out _ u).mono ?_);rintro e w3 ⟨rfl,u,x⟩;have s3:=u.size;have c3:=HC.out _ u;have yV:=fun o=>HC.out _ (bal u o);have yW:=fun o o2=>HC.out _ (bal (bal u o) o2);clear x)
     | ((with_reducible refine(HP.out _ (bdw (bal (Lb _ _) _))).mono ?_);rintro e w3 ⟨rfl,u,x⟩;have s3:=u.size;have c3:=HC.out _ u;have yV:=fun o=>HC.out _ (bal u o);have yW:=fun o o2=>HC.out _ (bal (bal u o) o2);have a1:=QmA x;clear x)
     | ((with_reducible refine(HP.out _ (bdw (bal (bal (Lb _ _) _) _))).mono ?_);rintro e w3 ⟨rfl,u,x⟩;have s3:=u.size;have c3:=HC.out _ u;have yV:=fun o=>HC.out _ (bal u o);have yW:=fun o o2=>HC.out _ (bal (bal u o) o2);have ⟨a1,a2⟩:=QmB x;clear x))
    | (go_at_call 168;first
     | ((with_reducible refine(HR.out _ u).mono ?_);rintro e w4 ⟨va,vc,rfl,o4,u,x⟩;have o5:=QO o4 s3;(try (have p3:=apart o4 a1.lt;have a3:=a1.next x;have ⟨b3,f3,g3,k3⟩:=a3.four;have ⟨n3,m3⟩:=a3.ne));(try (have p4:=apart o4 a2.lt;have a4:=a2.next x;have ⟨b4,f4,g4,k4⟩:=a4.four;have ⟨n4,m4⟩:=a4.ne)))
     | ((with_reducible refine(HR.out _ (bal u _)).mono ?_);rintro e w4 ⟨va,vc,rfl,o4,u,x⟩;have o5:=QO o4 (Lr s3 (bal (Lb _ w3) _).size);(try (have p3:=apart o4 (a1.al _).lt;have a3:=(a1.al _).next x;have ⟨n5,m5⟩:=a1.ne;have ⟨b3,f3,g3,k3⟩:=a3.four;have ⟨n3,m3⟩:=a3.ne));have p4:=apart o4 (Jp w3 _ _).lt;have a4:=QjO x;have ⟨b4,f4,g4,k4⟩:=a4.four;have ⟨n4,m4⟩:=a4.ne)
     | ((with_reducible refine(HR.out _ (bal (bal u _) _)).mono ?_);rintro e w4 ⟨va,vc,rfl,o4,u,x⟩;have o5:=QO o4 (Lr s3 (bal (bal (Lb _ w3) _) _).size);have ⟨a3,a4⟩:=QjP x;have p3:=apart o4 ((Jp w3 _ _).al _).lt;have p4:=apart o4 (Qqa w3 _ _);have ⟨b3,f3,g3,k3⟩:=a3.four;have ⟨n3,m3⟩:=a3.ne;have ⟨b4,f4,g4,k4⟩:=a4.four;have ⟨n4,m4⟩:=a4.ne)))
   all_goals
    have xN:=HK.out _ u
    go_wp2_with fail
    go_meet
    case rel=>
     first
      | (with_reducible exact Qmw u xN o5)
      | (with_reducible exact QjH u xN o5)
      | (with_reducible exact Qf5 u xQ.out xN a3 a4 (by omega) (by omega) (by omega) p3 p4 o5)
      | (with_reducible exact Qf5 u xQ.out xN a4 a3 (by omega) (by omega) (by omega) p4 p3 o5)
      | (with_reducible exact QeN u xQ.out xN a3 (by omega) p3 o5)
      | (with_reducible exact QeN u xQ.out xN a4 (by omega) p4 o5)
      | (with_reducible exact Qha u xQ.out xN a3 (by omega) p3 o5)
      | (with_reducible exact Qha u xQ.out xN a4 (by omega) p4 o5)
   -- A>
  obtain⟨bp,br,va,vc,n,rfl,rfl,uc,kb,kp,kr,lp,lr,oc⟩:=hcut;have yE:=h1.next uc;have yH:=Qa u1 uc;have zC:pl.size=s.size+8:=by rw[<-xX,YA,pay_len,Qb]
  have yN:ss.length=len:=by rw[<-xO,JU];exact yZ
  have yO:∀x∈ss,x.size<=9223372036854775807:=fun x hx=>by
   rw[<-xO] at hx;unfold QV at hx;obtain⟨i,d,hd,rfl⟩:=List.mem_mapIdx.1 hx;rw[YA,Qam _ _ (by rw[Qb,n2 _ (L8 _)];exact yL)]
   omega
  obtain⟨zH,rb,zI,hv,yB,xR,xW⟩:=Ya oc yO;injection hv with e1 e2 e3
  subst e1 e2 e3;rw[yN] at kr oc yB xR;have HL:Hid (∀W,Bl wc W->Re 155 #[Pq q,.string ⟨#[105,116,101,109,115]⟩] W (.int .i64 (lst S.ends:Int))):=fun W hW=>YN W (yE.next hW)
  have xU:Hid (∀W,Bl wc W->W.cell? ⟨bp,0,none⟩=some (.string pl)∧W.cell? ⟨bs,0,none⟩=some (Pq q)):=fun W hW=>⟨((show Bk wc bp _ _ from kp).next hW).both.1,((show Bk wc bs _ _ from kb).next hW).both.1⟩
  have xZ:IntKind.i64.wrap (268435456-(lst S.ends:Int))=268435456-(lst S.ends:Int):=by rw[Lq];omega
  obtain⟨ls,yF⟩:=Ze (lst S.ends);rw[yF] at xZ HL
  by_cases hroom:268435456<ls+(s.size+8)
  ·have yY:(268435456:Int)-(ls:Int)<(pl.size:Int):=by omega
   have e1:Uy D S s.data.toList ds=(D,S,172):=by
    unfold Uy;rw[g5,yF,Lf hroom];rfl
   rw[e1] at hR;injection hR with e2 e3
   injection e3 with e3 e4
   subst e2 e3 e4;have HZ:Hid (∀W,Bl wc W->SkM w W q p T D S):=fun W hW=>SkM.of h (Qa yH hW)
   clear h h1 hr xC yE HP HR HK HC yB oc kp kb kr e1 yO
   go_upto_region 5 with (fail)
   have u:=bdz wc;obtain⟨c5,c6⟩:=xU.out _ (Lb _ _)
   go_region_held3 (fun Z=>Z.cell? ⟨bp,0,none⟩=some (.string pl)∧Z.cell? ⟨bs,0,none⟩=some (Pq q)) (first|assumption|(with_reducible exact xU.out _ u)) (first
    | (go_at_call 155;(with_reducible refine(HL.out _ u).mono ?_);rintro e w5 ⟨rfl,rfl⟩))
   all_goals
    go_wp2
    go_ret
    exact⟨rfl,HZ.out _ u⟩
  ·have yY:¬(268435456:Int)-(ls:Int)<(pl.size:Int):=by omega
   obtain⟨m,hm⟩:=Ze (addM S s.data.toList ds);have HN:Hid (∀W,Bl wc W->Calls prog 169 #[Pq q,.string pl,.slice va len vc] W fun e w'=>e= .returned (.agg (mC m))∧Bl wc w'):=fun W hW=>
    (Qc0 W (yE.next hW) pl (by omega) va rb 0 len vc ss (yB.next hW (La _)) (by omega) m (by rw[<-hm,addM,xO,<-xX,JA])).mono fun e w' z=>⟨z.1,Qa hW z.2⟩
   have yQ:Hid (∀W,Bl wc W->W.cell? ⟨br,0,none⟩=some (.slice va len vc)):=fun W hW=>((show Bk wc br _ _ from kr).next hW).both.1
   simp only[mC] at HN;obtain⟨m0,e0⟩:=Ze m.k;obtain⟨m1,e1⟩:=Ze m.size;obtain⟨m2,e2⟩:=Ze m.items;obtain⟨m3,e3⟩:=Ze m.nodes;obtain⟨md,e4⟩:=Ze m.chain.toNat;rw[e0,e1,e2,e3,e4] at HN;have HE:=Qc (Nx e0 (Nx e1 (Nx e2 (Nx e3 e4))));clear e0 e1 e2 e3 e4
   go_upto_region 5 with (fail)
   have u:=bdz wc;obtain⟨c5,c6⟩:=xU.out _ (Lb _ _)
   go_region_held3 (fun Z=>Z.cell? ⟨bp,0,none⟩=some (.string pl)∧Z.cell? ⟨bs,0,none⟩=some (Pq q)) (first|assumption|(with_reducible exact xU.out _ u)) (first
    | (go_at_call 155;(with_reducible refine(HL.out _ u).mono ?_);rintro e w5 ⟨rfl,rfl⟩))
   all_goals
    have c7:=yQ.out _ u
    go_upto_region 8 with (go_at_call 169;(with_reducible refine(HN.out _ u).mono ?_);rintro e w6 ⟨rfl,u6⟩)
    go_upto_region 9 with (fail)
    obtain⟨bm,yJ⟩:=Ze w6.heap.size;have km:((w6.alloc (.cells #[.int .i64 m0,.int .u64 m1,.int .u64 m2,.int .u64 m3,.int .u32 md] 239)).alloc (.cells #[.func (.func 170) #[] #[Pq bs,Pq bp],.func (.func 172) #[] #[Pq bs,Pq br],.func (.func 174) #[] #[Pq bs],.func (.func 175) #[] #[Pq bs],.func (.func 176) #[] #[Pq bs,Pq w6.heap.size],.func (.func 178) #[] #[Pq bs]] 54)).heap[w6.heap.size]? = some (.cells #[.int .i64 m0,.int .u64 m1,.int .u64 m2,.int .u64 m3,.int .u32 md] 239 (0,0)):=new0 _ _ _;have kl:=new2 w6 (.cells #[.int .i64 m0,.int .u64 m1,.int .u64 m2,.int .u64 m3,.int .u32 md] 239) (.cells #[.func (.func 170) #[] #[Pq bs,Pq bp],.func (.func 172) #[] #[Pq bs,Pq br],.func (.func 174) #[] #[Pq bs],.func (.func 175) #[] #[Pq bs],.func (.func 176) #[] #[Pq bs,Pq w6.heap.size],.func (.func 178) #[] #[Pq bs]] 54);have u8:Bl w6 ((w6.alloc (.cells #[.int .i64 m0,.int .u64 m1,.int .u64 m2,.int .u64 m3,.int .u32 md] 239)).alloc (.cells #[.func (.func 170) #[] #[Pq bs,Pq bp],.func (.func 172) #[] #[Pq bs,Pq br],.func (.func 174) #[] #[Pq bs],.func (.func 175) #[] #[Pq bs],.func (.func 176) #[] #[Pq bs,Pq w6.heap.size],.func (.func 178) #[] #[Pq bs]] 54)):=bal (bal (Lb _ _) _) _;generalize (w6.alloc (.cells #[.int .i64 m0,.int .u64 m1,.int .u64 m2,.int .u64 m3,.int .u32 md] 239)).alloc (.cells #[.func (.func 170) #[] #[Pq bs,Pq bp],.func (.func 172) #[] #[Pq bs,Pq br],.func (.func 174) #[] #[Pq bs],.func (.func 175) #[] #[Pq bs],.func (.func 176) #[] #[Pq bs,Pq w6.heap.size],.func (.func 178) #[] #[Pq bs]] 54)=w8 at *;have ub:Bl w w8:=Qa (Qa yH u6) u8;have xT:Bl wc w8:=Qa u6 u8;have h8:Sk w8 q p T D S:=h.next ub;rw[yJ] at km kl ⊢;have xM:=Qc ub;have xL:Hid (∀x,T x->x<w.heap.size):=fun x hx=>h.lt hx
    have yP:w.heap.size<=bs:=NE HB.out;have yA:∀ {b:Nat},w2.heap.size<=b->w.heap.size<=b:=fun {b} e=>Lr u1.size e
    have xH:Hid (w.heap.size<=bs∧bs<w8.heap.size∧w.heap.size<=br∧br<w8.heap.size∧w.heap.size<=bm∧bm<w8.heap.size) :=
     ⟨yP,Lz (Bk.lt kb) xT.size,yA lr,Lz (Bk.lt kr) xT.size,by rw[<-yJ];exact(Qa yH u6).size,(Array.getElem?_eq_some_iff.1 km).1⟩
    have nT:∀b,w.heap.size<=b -> ¬T b:=fun b e ht=>Nz _ (Lz (xL.out b ht) e)
    have xA:Hid (∀W Dj,SkM w8 W q p T Dj S->W.cell? ⟨bs,0,none⟩=some (Pq q)∧W.cell? ⟨bp,0,none⟩=some (.string pl)∧W.cell? ⟨br,0,none⟩=some (.slice va len vc)∧(W.cell? ⟨bm,0,none⟩=some (.int .i64 m.k)∧W.cell? ⟨bm,1,none⟩=some (.int .u64 m.size)∧W.cell? ⟨bm,2,none⟩=some (.int .u64 m.items)∧W.cell? ⟨bm,3,none⟩=some (.int .u64 m.nodes)∧W.cell? ⟨bm,4,none⟩=some (.int .u32 m.chain.toNat))):=fun W Dj hW=>by
     obtain⟨y0,y1,y2,y3,y4⟩:=Ys km;have nm:=nT bm xH.out.2.2.2.2.1;rw[HE.out.1,HE.out.2.1,HE.out.2.2.1,HE.out.2.2.2.1,HE.out.2.2.2.2];exact⟨hW.cell (Bk.both (Bk.next kb xT)).1 (nT bs yP),hW.cell (Bk.both (Bk.next kp xT)).1 (nT bp (yA lp)),hW.cell (Bk.both (Bk.next kr xT)).1 (nT br (yA lr)),hW.cell y0 nm,hW.cell y1 nm,hW.cell y2 nm,hW.cell y3 nm,hW.cell y4 nm⟩
    have xE:Hid (∀W Dj,SkM w8 W q p T Dj S->W.cell? ⟨bm+1,0,none⟩=some (.func (.func 170) #[] #[Pq bs,Pq bp])∧W.cell? ⟨bm+1,1,none⟩=some (.func (.func 172) #[] #[Pq bs,Pq br])∧W.cell? ⟨bm+1,2,none⟩=some (.func (.func 174) #[] #[Pq bs])∧W.cell? ⟨bm+1,3,none⟩=some (.func (.func 175) #[] #[Pq bs])∧W.cell? ⟨bm+1,4,none⟩=some (.func (.func 176) #[] #[Pq bs,Pq bm])∧W.cell? ⟨bm+1,5,none⟩=some (.func (.func 178) #[] #[Pq bs])):=fun W Dj hW=>by
     have nm:=nT (bm+1) (Lr xH.out.2.2.2.2.1 (I7 _));exact⟨hW.cell (by rw[cell_of_row w8 (bm+1) 0 _ _ (0,0) kl];rfl) nm,hW.cell (by rw[cell_of_row w8 (bm+1) 1 _ _ (0,0) kl];rfl) nm,hW.cell (by rw[cell_of_row w8 (bm+1) 2 _ _ (0,0) kl];rfl) nm,hW.cell (by rw[cell_of_row w8 (bm+1) 3 _ _ (0,0) kl];rfl) nm,hW.cell (by rw[cell_of_row w8 (bm+1) 4 _ _ (0,0) kl];rfl) nm,hW.cell (by rw[cell_of_row w8 (bm+1) 5 _ _ (0,0) kl];rfl) nm⟩
    have xF:Hid (∀W Dj,SkM w8 W q p T Dj S->RdS W va rb 0 len ss):=fun W Dj hW=>by
     have r8:=yB.next xT (La _);refine⟨r8.hl,r8.ptr,fun j v hv=> ?_,r8.sz⟩
     have hj:j<len:=by have:=(List.getElem?_eq_some_iff.1 hv).1;rw[LY] at this;omega
     have zD:=r8.ptr (by omega)
     exact hW.cell (r8.rng j v hv) (nT rb (yA (by rw[zD] at oc;exact(LO oc rb rfl).1)))
    have xK:Hid (len<=vc∧len<=1000∧(Rc.Qj ss).length<=1000000):=⟨xR,by omega,by
     have:(Rc.Qj ss).length<=40*len:=by
      rw[<-yN,<-xO];exact QdQ _ _ (fun d hd=>by rw[n2 d hd];exact yL)
     omega⟩
    have yM:m=nxM S.k S.ends S.chain (pay s.data.toList) (QV (nn S.ends.length) ds):=hm.symm;have yC:Hid (m.size<18446744073709551616∧m.items<18446744073709551616∧m.nodes<18446744073709551616):=by
     rw[yM];refine⟨show S.ends.length+1<_ by omega,show lst S.ends+(pay s.data.toList).length<_ by rw[pay_len,Qb];omega,show nn (S.ends.length+1)*40<_ by omega⟩
    have yS:Hid (pl.size<=140737488355328):=by show _<=_;omega
    have hA:addA S s.data.toList ds=six S pl.data.toList (Rc.Qj ss) (mrk m):=by unfold addA;rw[xO,hm,<-xX,JA]
    have yX:refD S s.data.toList ds=0:=by rw[g5,yF,Le hroom]
    have xV:(if (Qx (six S pl.data.toList (Rc.Qj ss) (mrk m)) D).2=0 then ((Qx (six S pl.data.toList (Rc.Qj ss) (mrk m)) D).1,{ S with ends:=S.ends++[m.items],chain:=m.chain },0) else ((Qx (six S pl.data.toList (Rc.Qj ss) (mrk m)) D).1,{ S with lame:=true },(Qx (six S pl.data.toList (Rc.Qj ss) (mrk m)) D).2))=(D',S',r):=by
     rw[<-hR];unfold Uy;rw[yX,hA,hm,Le (show ¬((0:Int)≠0) from fun h=>h rfl)]
    have xP:Hid (∀D1 r1,(D1,r1)=Qx (six S pl.data.toList (Rc.Qj ss) (mrk m)) D -> ¬r1=0->D1=D' ∧ { S with lame:=true } = S'∧r1=r):=fun D1 r1 e1 e2=>by
     rw[<-e1,Le e2] at xV;injection xV with a1 a2
     injection a2 with a2 a3
     exact⟨a1,a2,a3⟩
    have yR:Hid (∀D1,(D1,0)=Qx (six S pl.data.toList (Rc.Qj ss) (mrk m)) D->D1=D' ∧ { S with ends:=S.ends++[m.items],chain:=m.chain } = S'∧0=r):=fun D1 e1=>by
     rw[<-e1,Lf rfl] at xV;injection xV with a1 a2
     injection a2 with a2 a3
     exact⟨a1,a2,a3⟩
    have yI:Hid (m.items<=268435456∧S.ends.length<65536):=⟨by rw[yM];show lst S.ends+(pay s.data.toList).length<=_;rw[pay_len,Qb];omega,g3⟩
    have yT:Hid (Rm 7 D):=hrm;have yU:Hid (SkM w8 w8 q p T D S):=SkM.of h8 (Lb _ _);clear h h1 hr xC yE HP HR HK HC xU yQ HN HL yB oc kp kb kr yO km kl u8 ub xT h8 yM hA yX xV hrm hroom yY nT yA yP xO xX zC yN hm u6 u yH uc c5 c6 c7 yJ xR xW lp lr HB HW HF xQ xS hR n1 n2 g1 g2 g3 g4 g5 zB xZ yF;go_wp2
    go_loopg [46] 6 (fun g x wr=> ∃(j:Nat) (Dj:DV),j<=6∧g=6-j∧x= .int .i64 j∧Hid (SkM w8 wr q p T Dj S)∧Hid (Rm (7-j) Dj)∧Hid (Qx ((six S pl.data.toList (Rc.Qj ss) (mrk m)).drop j) Dj=Qx (six S pl.data.toList (Rc.Qj ss) (mrk m)) D))
    case atStart=>go_light;exact⟨0,D,by decide,rfl,rfl,yU,yT,rfl⟩
    case round=>
     obtain⟨j,Dj,hj,rfl,rfl,HS,xG,HI⟩:=hrel;have HI:=HI.out;clear yU yT
     rcases(show j=0∨j=1∨j=2∨j=3∨j=4∨j=5∨j=6 by omega) with rfl|rfl|rfl|rfl|rfl|rfl|rfl
     -- <L
     ·have xD:Rm 7 Dj:=xG.out;obtain⟨T1,hk,hT,hu⟩:=HS.out;have nT:∀b,w.heap.size<=b->b<w8.heap.size -> ¬T1 b:=fun b h1 h2 ht=>by
       rcases hT b ht with e|e
       ·have:=xL.out b e;omega
       ·omega
      obtain⟨D1,r1,xB⟩:∃D1 r1,wrD Dj nmI (lst S.ends:Int) pl.data.toList=(D1,r1):=⟨_,_,rfl⟩;have HA:Hid (Calls prog 170 #[Pq bs,Pq bp] wr fun e w'=>e= .returned (.int .i64 r1)∧SkM w8 w' q p T D1 S):=(QjB wr hk xD.rmy bs bp (xA.out wr _ HS.out).1 pl (xA.out wr _ HS.out).2.1 yS.out D1 r1 xB).mono fun e w' z=>⟨z.1,QW hT hu z.2⟩
      have xC:Rm 6 D1:=by
       have:Rm 6 (wrD Dj nmI (lst S.ends:Int) pl.data.toList).1:=QlG _ _ _ (hk.sz _) xD;rw[xB] at this;exact this
      have hE:Qx ((six S pl.data.toList (Rc.Qj ss) (mrk m)).drop 0) Dj=if r1=0 then Qx ((six S pl.data.toList (Rc.Qj ss) (mrk m)).drop 1) D1 else (D1,r1):=by
       show Qx ((fun D=>wrD D nmI (lst S.ends:Int) pl.data.toList)::((six S pl.data.toList (Rc.Qj ss) (mrk m)).drop 1)) Dj=_
       simp only[Qx,xB]
      rw[hE] at HI;have cl:=(xE.out wr _ HS.out).1;have hz:((0:Nat):Int)<6:=by decide
      clear hE nT hT hu hk xD xG xB
      by_cases h0:r1=0
      ·subst h0;rw[Lf rfl] at HI;have xI:=Qc HI;have xJ:=Qc xC;clear HI xC HS xA xF xE
       go_wp2_with (go_at_call 170;(with_reducible refine HA.out.mono ?_);rintro e w9 ⟨rfl,t9⟩)
       go_roundg 5
       case rel=>go_light;exact⟨1,D1,by decide,rfl,by first|rfl|go_num,t9,xJ,xI⟩
       case measure=>go_light;decide
      ·rw[Le h0] at HI;have HZ:Hid (∀W,SkM w8 W q p T D1 S->(W.cell? ⟨bs,0,none⟩=some (Pq q)∧W.cell? ⟨q,4,none⟩=some (.bool S.lame)∧W.frozen? ⟨q,4,none⟩=false)∧SkM w (W.setCell ⟨q,4,none⟩ (.bool true)) q p T D' S'∧r1=r):=fun W hW=>by
        obtain⟨⟨l1,l2⟩,l3⟩:=hW.limp;obtain⟨z1,z2,z3⟩:=xP.out D1 r1 HI h0;exact⟨⟨(xA.out W _ hW).1,l1,l2⟩,by rw[<-z1,<-z2];exact l3.first xM.out,z3⟩
       have xY:(r1 != 0)=true:=by simp[h0]
       clear HI xC HS xA xF xE
       go_wp2_with (go_at_call 170;(with_reducible refine HA.out.mono ?_);rintro e w9 ⟨rfl,t9⟩;have ⟨y0,y1,y2⟩:=(HZ.out _ t9).1)
       go_ret
       obtain⟨z2,z3⟩:=(HZ.out _ t9).2;subst z3;exact⟨rfl,z2⟩
     ·have xD:Rm 6 Dj:=xG.out;obtain⟨T1,hk,hT,hu⟩:=HS.out;have nT:∀b,w.heap.size<=b->b<w8.heap.size -> ¬T1 b:=fun b h1 h2 ht=>by
       rcases hT b ht with e|e
       ·have:=xL.out b e;omega
       ·omega
      obtain⟨D1,r1,xB⟩:∃D1 r1,wrD Dj nmN ((nn S.ends.length*40:Nat):Int) (Rc.Qj ss)=(D1,r1):=⟨_,_,rfl⟩;have HA:Hid (Calls prog 172 #[Pq bs,Pq br] wr fun e w'=>e= .returned (.int .i64 r1)∧SkM w8 w' q p T D1 S):=(QjC wr hk xD.rmy bs br (xA.out wr _ HS.out).1 va rb 0 len vc ss (xA.out wr _ HS.out).2.2.1 (xF.out wr _ HS.out) xK.out.1 xK.out.2.1 xK.out.2.2 (nT bs xH.out.1 xH.out.2.1) (nT br xH.out.2.2.1 xH.out.2.2.2.1) D1 r1 xB).mono fun e w' z=>⟨z.1,QW hT hu z.2⟩
      have xC:Rm 5 D1:=by
       have:Rm 5 (wrD Dj nmN ((nn S.ends.length*40:Nat):Int) (Rc.Qj ss)).1:=QlG _ _ _ (hk.sz _) xD;rw[xB] at this;exact this
      have hE:Qx ((six S pl.data.toList (Rc.Qj ss) (mrk m)).drop 1) Dj=if r1=0 then Qx ((six S pl.data.toList (Rc.Qj ss) (mrk m)).drop 2) D1 else (D1,r1):=by
       show Qx ((fun D=>wrD D nmN ((nn S.ends.length*40:Nat):Int) (Rc.Qj ss))::((six S pl.data.toList (Rc.Qj ss) (mrk m)).drop 2)) Dj=_
       simp only[Qx,xB]
      rw[hE] at HI;have cl:=(xE.out wr _ HS.out).2.1;have hz:((1:Nat):Int)<6:=by decide
      clear hE nT hT hu hk xD xG xB
      by_cases h0:r1=0
      ·subst h0;rw[Lf rfl] at HI;have xI:=Qc HI;have xJ:=Qc xC;clear HI xC HS xA xF xE
       go_wp2_with (go_at_call 172;(with_reducible refine HA.out.mono ?_);rintro e w9 ⟨rfl,t9⟩)
       go_roundg 4
       case rel=>go_light;exact⟨2,D1,by decide,rfl,by first|rfl|go_num,t9,xJ,xI⟩
       case measure=>go_light;decide
      ·rw[Le h0] at HI;have HZ:Hid (∀W,SkM w8 W q p T D1 S->(W.cell? ⟨bs,0,none⟩=some (Pq q)∧W.cell? ⟨q,4,none⟩=some (.bool S.lame)∧W.frozen? ⟨q,4,none⟩=false)∧SkM w (W.setCell ⟨q,4,none⟩ (.bool true)) q p T D' S'∧r1=r):=fun W hW=>by
        obtain⟨⟨l1,l2⟩,l3⟩:=hW.limp;obtain⟨z1,z2,z3⟩:=xP.out D1 r1 HI h0;exact⟨⟨(xA.out W _ hW).1,l1,l2⟩,by rw[<-z1,<-z2];exact l3.first xM.out,z3⟩
       have xY:(r1 != 0)=true:=by simp[h0]
       clear HI xC HS xA xF xE
       go_wp2_with (go_at_call 172;(with_reducible refine HA.out.mono ?_);rintro e w9 ⟨rfl,t9⟩;have ⟨y0,y1,y2⟩:=(HZ.out _ t9).1)
       go_ret
       obtain⟨z2,z3⟩:=(HZ.out _ t9).2;subst z3;exact⟨rfl,z2⟩
     ·have xD:Rm 5 Dj:=xG.out;obtain⟨T1,hk,hT,hu⟩:=HS.out;have nT:∀b,w.heap.size<=b->b<w8.heap.size -> ¬T1 b:=fun b h1 h2 ht=>by
       rcases hT b ht with e|e
       ·have:=xL.out b e;omega
       ·omega
      obtain⟨D1,r1,xB⟩:∃D1 r1,QP Dj nmI=(D1,r1):=⟨_,_,rfl⟩;have HA:Hid (Calls prog 174 #[Pq bs] wr fun e w'=>e= .returned (.int .i64 r1)∧SkM w8 w' q p T D1 S):=(QjD wr hk xD.rmy bs (xA.out wr _ HS.out).1 D1 r1 xB).mono fun e w' z=>⟨z.1,QW hT hu z.2⟩
      have xC:Rm 4 D1:=by
       have:Rm 4 (QP Dj nmI).1:=Qa2 _ (hk.sz _) xD;rw[xB] at this;exact this
      have hE:Qx ((six S pl.data.toList (Rc.Qj ss) (mrk m)).drop 2) Dj=if r1=0 then Qx ((six S pl.data.toList (Rc.Qj ss) (mrk m)).drop 3) D1 else (D1,r1):=by
       show Qx ((fun D=>QP D nmI)::((six S pl.data.toList (Rc.Qj ss) (mrk m)).drop 3)) Dj=_
       simp only[Qx,xB]
      rw[hE] at HI;have cl:=(xE.out wr _ HS.out).2.2.1;have hz:((2:Nat):Int)<6:=by decide
      clear hE nT hT hu hk xD xG xB
      by_cases h0:r1=0
      ·subst h0;rw[Lf rfl] at HI;have xI:=Qc HI;have xJ:=Qc xC;clear HI xC HS xA xF xE
       go_wp2_with (go_at_call 174;(with_reducible refine HA.out.mono ?_);rintro e w9 ⟨rfl,t9⟩)
       go_roundg 3
       case rel=>go_light;exact⟨3,D1,by decide,rfl,by first|rfl|go_num,t9,xJ,xI⟩
       case measure=>go_light;decide
      ·rw[Le h0] at HI;have HZ:Hid (∀W,SkM w8 W q p T D1 S->(W.cell? ⟨bs,0,none⟩=some (Pq q)∧W.cell? ⟨q,4,none⟩=some (.bool S.lame)∧W.frozen? ⟨q,4,none⟩=false)∧SkM w (W.setCell ⟨q,4,none⟩ (.bool true)) q p T D' S'∧r1=r):=fun W hW=>by
        obtain⟨⟨l1,l2⟩,l3⟩:=hW.limp;obtain⟨z1,z2,z3⟩:=xP.out D1 r1 HI h0;exact⟨⟨(xA.out W _ hW).1,l1,l2⟩,by rw[<-z1,<-z2];exact l3.first xM.out,z3⟩
       have xY:(r1 != 0)=true:=by simp[h0]
       clear HI xC HS xA xF xE
       go_wp2_with (go_at_call 174;(with_reducible refine HA.out.mono ?_);rintro e w9 ⟨rfl,t9⟩;have ⟨y0,y1,y2⟩:=(HZ.out _ t9).1)
       go_ret
       obtain⟨z2,z3⟩:=(HZ.out _ t9).2;subst z3;exact⟨rfl,z2⟩
     ·have xD:Rm 4 Dj:=xG.out;obtain⟨T1,hk,hT,hu⟩:=HS.out;have nT:∀b,w.heap.size<=b->b<w8.heap.size -> ¬T1 b:=fun b h1 h2 ht=>by
       rcases hT b ht with e|e
       ·have:=xL.out b e;omega
       ·omega
      obtain⟨D1,r1,xB⟩:∃D1 r1,QP Dj nmN=(D1,r1):=⟨_,_,rfl⟩;have HA:Hid (Calls prog 175 #[Pq bs] wr fun e w'=>e= .returned (.int .i64 r1)∧SkM w8 w' q p T D1 S):=(QjE wr hk xD.rmy bs (xA.out wr _ HS.out).1 D1 r1 xB).mono fun e w' z=>⟨z.1,QW hT hu z.2⟩
      have xC:Rm 3 D1:=by
       have:Rm 3 (QP Dj nmN).1:=Qa2 _ (hk.sz _) xD;rw[xB] at this;exact this
      have hE:Qx ((six S pl.data.toList (Rc.Qj ss) (mrk m)).drop 3) Dj=if r1=0 then Qx ((six S pl.data.toList (Rc.Qj ss) (mrk m)).drop 4) D1 else (D1,r1):=by
       show Qx ((fun D=>QP D nmN)::((six S pl.data.toList (Rc.Qj ss) (mrk m)).drop 4)) Dj=_
       simp only[Qx,xB]
      rw[hE] at HI;have cl:=(xE.out wr _ HS.out).2.2.2.1;have hz:((3:Nat):Int)<6:=by decide
      clear hE nT hT hu hk xD xG xB
      by_cases h0:r1=0
      ·subst h0;rw[Lf rfl] at HI;have xI:=Qc HI;have xJ:=Qc xC;clear HI xC HS xA xF xE
       go_wp2_with (go_at_call 175;(with_reducible refine HA.out.mono ?_);rintro e w9 ⟨rfl,t9⟩)
       go_roundg 2
       case rel=>go_light;exact⟨4,D1,by decide,rfl,by first|rfl|go_num,t9,xJ,xI⟩
       case measure=>go_light;decide
      ·rw[Le h0] at HI;have HZ:Hid (∀W,SkM w8 W q p T D1 S->(W.cell? ⟨bs,0,none⟩=some (Pq q)∧W.cell? ⟨q,4,none⟩=some (.bool S.lame)∧W.frozen? ⟨q,4,none⟩=false)∧SkM w (W.setCell ⟨q,4,none⟩ (.bool true)) q p T D' S'∧r1=r):=fun W hW=>by
        obtain⟨⟨l1,l2⟩,l3⟩:=hW.limp;obtain⟨z1,z2,z3⟩:=xP.out D1 r1 HI h0;exact⟨⟨(xA.out W _ hW).1,l1,l2⟩,by rw[<-z1,<-z2];exact l3.first xM.out,z3⟩
       have xY:(r1 != 0)=true:=by simp[h0]
       clear HI xC HS xA xF xE
       go_wp2_with (go_at_call 175;(with_reducible refine HA.out.mono ?_);rintro e w9 ⟨rfl,t9⟩;have ⟨y0,y1,y2⟩:=(HZ.out _ t9).1)
       go_ret
       obtain⟨z2,z3⟩:=(HZ.out _ t9).2;subst z3;exact⟨rfl,z2⟩
     ·have xD:Rm 3 Dj:=xG.out;obtain⟨T1,hk,hT,hu⟩:=HS.out;have nT:∀b,w.heap.size<=b->b<w8.heap.size -> ¬T1 b:=fun b h1 h2 ht=>by
       rcases hT b ht with e|e
       ·have:=xL.out b e;omega
       ·omega
      obtain⟨D1,r1,xB⟩:∃D1 r1,wrD Dj nmM ((S.ends.length*64:Nat):Int) (mrk m)=(D1,r1):=⟨_,_,rfl⟩;have HA:Hid (Calls prog 176 #[Pq bs,Pq bm] wr fun e w'=>e= .returned (.int .i64 r1)∧SkM w8 w' q p T D1 S):=(QjF wr hk xD.rmy bs bm (xA.out wr _ HS.out).1 m yC.out.1 yC.out.2.1 yC.out.2.2 (xA.out wr _ HS.out).2.2.2 (nT bs xH.out.1 xH.out.2.1) (nT bm xH.out.2.2.2.2.1 xH.out.2.2.2.2.2) D1 r1 xB).mono fun e w' z=>⟨z.1,QW hT hu z.2⟩
      have xC:Rm 2 D1:=by
       have:Rm 2 (wrD Dj nmM ((S.ends.length*64:Nat):Int) (mrk m)).1:=QlG _ _ _ (hk.sz _) xD;rw[xB] at this;exact this
      have hE:Qx ((six S pl.data.toList (Rc.Qj ss) (mrk m)).drop 4) Dj=if r1=0 then Qx ((six S pl.data.toList (Rc.Qj ss) (mrk m)).drop 5) D1 else (D1,r1):=by
       show Qx ((fun D=>wrD D nmM ((S.ends.length*64:Nat):Int) (mrk m))::((six S pl.data.toList (Rc.Qj ss) (mrk m)).drop 5)) Dj=_
       simp only[Qx,xB]
      rw[hE] at HI;have cl:=(xE.out wr _ HS.out).2.2.2.2.1;have hz:((4:Nat):Int)<6:=by decide
      clear hE nT hT hu hk xD xG xB
      by_cases h0:r1=0
      ·subst h0;rw[Lf rfl] at HI;have xI:=Qc HI;have xJ:=Qc xC;clear HI xC HS xA xF xE
       go_wp2_with (go_at_call 176;(with_reducible refine HA.out.mono ?_);rintro e w9 ⟨rfl,t9⟩)
       go_roundg 1
       case rel=>go_light;exact⟨5,D1,by decide,rfl,by first|rfl|go_num,t9,xJ,xI⟩
       case measure=>go_light;decide
      ·rw[Le h0] at HI;have HZ:Hid (∀W,SkM w8 W q p T D1 S->(W.cell? ⟨bs,0,none⟩=some (Pq q)∧W.cell? ⟨q,4,none⟩=some (.bool S.lame)∧W.frozen? ⟨q,4,none⟩=false)∧SkM w (W.setCell ⟨q,4,none⟩ (.bool true)) q p T D' S'∧r1=r):=fun W hW=>by
        obtain⟨⟨l1,l2⟩,l3⟩:=hW.limp;obtain⟨z1,z2,z3⟩:=xP.out D1 r1 HI h0;exact⟨⟨(xA.out W _ hW).1,l1,l2⟩,by rw[<-z1,<-z2];exact l3.first xM.out,z3⟩
       have xY:(r1 != 0)=true:=by simp[h0]
       clear HI xC HS xA xF xE
       go_wp2_with (go_at_call 176;(with_reducible refine HA.out.mono ?_);rintro e w9 ⟨rfl,t9⟩;have ⟨y0,y1,y2⟩:=(HZ.out _ t9).1)
       go_ret
       obtain⟨z2,z3⟩:=(HZ.out _ t9).2;subst z3;exact⟨rfl,z2⟩
     ·have xD:Rm 2 Dj:=xG.out;obtain⟨T1,hk,hT,hu⟩:=HS.out;have nT:∀b,w.heap.size<=b->b<w8.heap.size -> ¬T1 b:=fun b h1 h2 ht=>by
       rcases hT b ht with e|e
       ·have:=xL.out b e;omega
       ·omega
      obtain⟨D1,r1,xB⟩:∃D1 r1,QP Dj nmM=(D1,r1):=⟨_,_,rfl⟩;have HA:Hid (Calls prog 178 #[Pq bs] wr fun e w'=>e= .returned (.int .i64 r1)∧SkM w8 w' q p T D1 S):=(QjG wr hk xD.rmy bs (xA.out wr _ HS.out).1 D1 r1 xB).mono fun e w' z=>⟨z.1,QW hT hu z.2⟩
      have xC:Rm 1 D1:=by
       have:Rm 1 (QP Dj nmM).1:=Qa2 _ (hk.sz _) xD;rw[xB] at this;exact this
      have hE:Qx ((six S pl.data.toList (Rc.Qj ss) (mrk m)).drop 5) Dj=if r1=0 then Qx ((six S pl.data.toList (Rc.Qj ss) (mrk m)).drop 6) D1 else (D1,r1):=by
       show Qx ((fun D=>QP D nmM)::((six S pl.data.toList (Rc.Qj ss) (mrk m)).drop 6)) Dj=_
       simp only[Qx,xB]
      rw[hE] at HI;have cl:=(xE.out wr _ HS.out).2.2.2.2.2;have hz:((5:Nat):Int)<6:=by decide
      clear hE nT hT hu hk xD xG xB
      by_cases h0:r1=0
      ·subst h0;rw[Lf rfl] at HI;have xI:=Qc HI;have xJ:=Qc xC;clear HI xC HS xA xF xE
       go_wp2_with (go_at_call 178;(with_reducible refine HA.out.mono ?_);rintro e w9 ⟨rfl,t9⟩)
       go_roundg 0
       case rel=>go_light;exact⟨6,D1,by decide,rfl,by first|rfl|go_num,t9,xJ,xI⟩
       case measure=>go_light;decide
      ·rw[Le h0] at HI;have HZ:Hid (∀W,SkM w8 W q p T D1 S->(W.cell? ⟨bs,0,none⟩=some (Pq q)∧W.cell? ⟨q,4,none⟩=some (.bool S.lame)∧W.frozen? ⟨q,4,none⟩=false)∧SkM w (W.setCell ⟨q,4,none⟩ (.bool true)) q p T D' S'∧r1=r):=fun W hW=>by
        obtain⟨⟨l1,l2⟩,l3⟩:=hW.limp;obtain⟨z1,z2,z3⟩:=xP.out D1 r1 HI h0;exact⟨⟨(xA.out W _ hW).1,l1,l2⟩,by rw[<-z1,<-z2];exact l3.first xM.out,z3⟩
       have xY:(r1 != 0)=true:=by simp[h0]
       clear HI xC HS xA xF xE
       go_wp2_with (go_at_call 178;(with_reducible refine HA.out.mono ?_);rintro e w9 ⟨rfl,t9⟩;have ⟨y0,y1,y2⟩:=(HZ.out _ t9).1)
       go_ret
       obtain⟨z2,z3⟩:=(HZ.out _ t9).2;subst z3;exact⟨rfl,z2⟩
     -- L>
     ·have yD:=Qc (yR.out Dj HI);obtain⟨T1,hk,hT,hu⟩:=HS.out;have HA:Hid (Calls prog 179 #[Pq q,.agg #[.int .i64 m.k,.int .u64 m.size,.int .u64 m.items,.int .u64 m.nodes,.int .u32 m.chain.toNat]] wr fun e w'=>e= .returned (.tuple #[])∧SkM w w' q p T D' S'∧0=r):=(UH wr hk m yI.out.1 yI.out.2).mono fun e w' z=>⟨z.1,by rw[<-yD.out.1,<-yD.out.2.1];exact(QW hT hu z.2).first xM.out,yD.out.2.2⟩
      obtain⟨y0,_,_,y1,y2,y3,y4,y5⟩:=xA.out wr _ HS.out;have hz:¬((6:Nat):Int)<6:=by decide
      clear HI hT hu hk yD xA xF xE HS xG xP yR yI yC yS xK xH xL xM HE
      go_wp2_with (go_at_call 179;(with_reducible refine HA.out.mono ?_);rintro e w9 ⟨rfl,t9,t0⟩)
      go_ret
      subst t0;exact⟨rfl,t9⟩
 ·have e1:Uy D S s.data.toList ds=(D,S,re):=by
   unfold Uy;rw[QpT (by rw[xS];exact h0),xS,Lf h0]
  rw[e1] at hR;injection hR with e2 e3
  injection e3 with e3 e4
  subst e2 e3 e4;have HZ:=Qc (SkM.of h u1);clear h hr xS hrm e1 k1
  go_enter func100,ntmps100
  go_upto_region 1 with (fail)
  rw[HW.out,HB.out]
  go_wp2_with (go_at_call 166;(with_reducible refine HF.out.mono ?_);rintro e w2 ⟨rfl,rfl⟩)
  go_ret
  exact⟨rfl,HZ.out⟩
end
theorem QlB:(⟨(Lib.repeatL [0] 64).toArray⟩:BA)=tx (zer 64):=by kernel_rfl
theorem Qgt(w:World)(s:BA)(b:Bool)(hb:decide (s.data.toList=zer 64)=b):Zr 153 #[.string s] w (.bool b):=by
 have HR:Hid (Zr 242 #[.string ⟨#[0]⟩,.int .i64 64] w (.string (tx (zer 64)))):=by
  have:=Tryz.strings_Repeat_main ⟨#[0]⟩ 64 w (by decide) (by decide) (by decide) (by decide)
  rw[show(ByteArray.mk #[0]).data.toList=[0] from rfl,QlB] at this
  exact this
 have h1:(s.toList == (tx (zer 64)).toList)=b:=by
  rw[<-hb]
  by_cases h:s=tx (zer 64)
  ·rw[Qbq h,h,JA];simp
  ·rw[QdD h];exact(LA fun e=>h (QbK (by rw[e,JA]))).symm
 generalize tx (zer 64)=z at *;clear hb
 go_enter func153,ntmps153
 go_wp2_with (go_at_call 242;refine HR.out.mono ?_;rintro e w1 ⟨rfl,u1⟩)
 go_ret
 exact⟨by simp_all,u1⟩
theorem Qek(k:Nat)(b:List UInt8)(p:Nat):∀ {j:Nat} {l:LB},rdN k b p j=some l->l.length=j ∧ ∀x∈l,x.size=40
 | 0,l,h=>by simp only[rdN,Option.some.injEq] at h;subst h;simp
 | j+1,l,h=>by
  rw[rdN] at h
  cases hq:rdN k b p j with
  | none=>rw[hq] at h;cases h
  | some l'=>
   rw[hq] at h;simp only at h
   split at h
   ·rename_i hc
    simp only[Option.some.injEq] at h;subst h;obtain⟨h1,h2⟩:=Qek k b p hq;refine⟨by simp[h1],fun x hx=> ?_⟩
    rcases List.mem_append.1 hx with h|h
    ·exact h2 x h
    ·rw[List.mem_singleton.1 h,YA,Yd,Lx,Ni];have:=hc.1;omega
   ·cases h
theorem Qfz{k:Nat}{b:List UInt8}{p j:Nat}(h:rdN k b p j=none):∀i,j<=i->rdN k b p i=none:=fun i hi=>by
 induction i with
 | zero=> obtain rfl:j=0:=by omega
          exact h
 | succ i ih=>
  by_cases e:j=i+1
  ·rw[<-e];exact h
  ·rw[rdN,ih (by omega)]
def RnQ(w:World)(o:Option LB)(e:Ending)(w':World):Prop:=Bl w w'∧match o with
 | none=>e= .returned (.tuple #[.slice none 0 0,.int .i64 190])
 | some rows=> ∃va vc,e= .returned (.tuple #[.slice va rows.length vc,.int .i64 0])∧Qh w' w.heap.size (.slice va rows.length vc) rows
theorem Qau{D:DV}(hd:D.down=false)(s:List UInt8)(a n:Nat):rdS D s (a:Int) (n:Int)=if a+n<=(now D s).length then (((now D s).drop a).take n,0) else ([],190):=by
 have e1:rdD D s (a:Int) (n:Int)=if a+n<=(now D s).length then (((now D s).drop a).take n,0) else ([],173):=by
  unfold rdD now;rw[hd];simp only[Bool.false_eq_true,if_false,Int.toNat_natCast]
  by_cases h:a+n<=(Qe D.L s).now.length
  ·rw[Le (by omega),Lf h]
  ·rw[Lf (by omega),Le h]
 unfold rdS;rw[e1]
 by_cases h:a+n<=(now D s).length
 ·simp only[if_pos h];rfl
 ·simp only[if_neg h];rfl
theorem Qd5(w:World){q p:Nat}{T:Nat->Prop}{D:DV}{S:SV}(h:Sk w q p T D S)(hd:D.down=false)(hfew:S.ends.length<65536) :
  Calls prog 244 #[Pq q] w (RnQ w (rdN S.k (now D nmN) (nn S.ends.length) (nn (S.ends.length+1)-nn S.ends.length))):=by
 obtain⟨xX,xY,hf,_⟩:=h.small;have xU:=Us S.ends.length hf;obtain⟨ea,ec,xM⟩:=h.seen;have HC:Hid (∀W,Bl w W->W.cell? ⟨q,1,none⟩=some (.int .i64 S.k)):=fun W hW=>(xM W hW).2.1
 obtain⟨_,_,c2,_,_⟩:=xM w (Lb _ _);have HN:Hid (∀W,Re 245 #[.int .i64 S.ends.length] W (.int .u64 (nn S.ends.length:Int))):=fun W=>Q6 W S.ends.length (by omega)
 have xI:Hid (∀W,Re 245 #[.int .i64 ((S.ends.length:Int)+1)] W (.int .u64 (nn (S.ends.length+1):Int))):=fun W=>by
  have:=Q6 W (S.ends.length+1) (by omega)
  rw[IR] at this;exact this
 have hz:=h.sz nmN;have HR:Hid (∀W,Bl w W -> ∀i t r,rdS D nmN ((i*40:Nat):Int) 40=(t,r)->i<=131074->Zr 143 #[Pq q,.string ⟨#[110,111,100,101,115]⟩,.int .i64 ((i:Int)*40),.int .i64 40] W (.tuple #[.string (tx t),.int .i64 r])):=fun W hW i t r h1 h2=>by
  rw[show(i:Int)*40=((i*40:Nat):Int) by omega]
  exact J8 W (h.next hW) ⟨#[110,111,100,101,115]⟩ (by decide) _ _ (by omega) (by omega) (by omega) (by omega) (tx t) r (by rw[show(ByteArray.mk #[110,111,100,101,115]).data.toList=nmN from rfl,h1]) (by rw[show(ByteArray.mk #[110,111,100,101,115]).data.toList=nmN from rfl,h1])
 have xC:=fun i=>Qau hd nmN (i*40) 40
 clear xM h;obtain⟨nb,xV⟩:=Ze (now D nmN);rw[xV] at xC ⊢;generalize nn (S.ends.length+1)=m1 at *;generalize nn S.ends.length=m0 at *;generalize S.ends.length=n at *;generalize S.k=k at *;have e1:IntKind.i64.wrap ((n:Int)+1)=(n:Int)+1:=by rw[Lq];omega
 obtain⟨m,hm⟩:=Ze (m1-m0);have xS:m1=m0+m:=by omega
 subst xS;rw[hm];clear hm
 go_enter func244,ntmps244
 go_wp2_with (go_at_call 245;(with_reducible refine(HN.out _).mono ?_);rintro e w1 ⟨rfl,rfl⟩)
 go_loopg [5,6] m (fun g v x wr=> ∃(j:Nat) (rows:LB),j<=m∧g=m-j∧x= .int .u64 ((m0+j:Nat):Int)∧Hid (rdN k nb m0 j=some rows)∧Hid (Qh wr w1.heap.size v rows)∧Hid (Bl w1 wr))
 case atStart=>go_light;exact⟨0,[],Ln _,rfl,rfl,rfl,Ug _ _,Lb _ _⟩
 case round=>
  obtain⟨j,rows,hj,rfl,hx,HA,HO,HW⟩:=hrel;obtain⟨xJ,xK⟩:=Qek k nb m0 HA.out;obtain⟨va,vc,rfl⟩:=Qu HO.out;rw[xJ] at HO;obtain⟨i,hi⟩:=Ze (m0+j);rw[hi] at hx;subst hx
  by_cases hlt:j<m
  ·have xO:((m0+j:Nat):Int)<((m0+m:Nat):Int):=by omega
   have xP:IntKind.i64.wrap ((m0+j:Nat):Int)=((m0+j:Nat):Int):=by rw[Lq];omega
   have xQ:IntKind.i64.wrap (((m0+j:Nat):Int)*40)=((m0+j:Nat):Int)*40:=by rw[Lq];omega
   have xR:IntKind.u64.wrap (((m0+j:Nat):Int)+1)=((m0+(j+1):Nat):Int):=by rw[Y5 _ (by omega) (by omega)];omega
   have xA:=xC i;rw[hi] at xO xP xQ xR;have xB:rdN k nb m0 (j+1)=if 40*i+40<=nb.length∧(rnod k i (Yd nb i)).isSome then some (rows++[tx (Yd nb i)]) else none:=by rw[rdN,HA.out,hi]
   by_cases hin:i*40+40<=nb.length
   ·rw[Lf hin] at xA;have er:(nb.drop (i*40)).take 40=Yd nb i:=by rw[Yd,LF]
    rw[er] at xA;have xE:=Qc (HR.out wr HW.out i _ _ xA (by omega))
    obtain⟨xD,xN⟩:=Ze (Yd nb i);have xZ:xD.length<=40:=by rw[<-xN,Yd,Lx];omega
    rw[xN] at xE xB
    cases hq:rnod k i xD with
    | none=>
     have xF:rdN k nb m0 m=none:=Qfz (by rw[xB,hq];simp) m (by omega)
     have xL:Hid (∀W,Zr 252 #[.int .i64 k,.int .u64 i,.string (tx xD)] W (.tuple #[.string ⟨#[]⟩,.int .i64 180])):=fun W=>Qa3 W (k:Int) i (by omega) (tx xD) _ _ (Qer (by omega) (by show rnod (k:Int).toNat i xD=none;simpa using hq))
     have HZ:Hid (∀W W',Bl wr W->Bl W W'->RnQ w1 (rdN k nb m0 m) (.returned (.tuple #[.slice none 0 0,.int .i64 190])) W'):=fun W W' h1 h2=>by
      rw[xF];exact⟨Qa (Qa HW.out h1) h2,rfl⟩
     have CK:Hid (∀W,Bl wr W->W.cell? ⟨q,1,none⟩=some (.int .i64 k)):=fun W h1=>HC.out W (Qa HW.out h1)
     generalize rdN k nb m0 m=rr at *;generalize tx xD=tr at *;clear HA HO HW HC HR xC xB xF hq hi xA xK
     go_wp2_with (first
      | (go_at_call 245;(with_reducible refine(xI.out _).mono ?_);rintro e w2 ⟨rfl,rfl⟩)
      | (go_at_call 143;(with_reducible refine xE.out.mono ?_);rintro e w3 ⟨rfl,u3⟩;have c1:=CK.out _ u3)
      | (go_at_call 252;(with_reducible refine(xL.out _).mono ?_);rintro e w4 ⟨rfl,u4⟩))
     go_ret2
     exact HZ.out _ _ u3 u4
    | some x=>
     have xG:rdN k nb m0 (j+1)=some (rows++[tx xD]):=by rw[xB,hq,Lf ⟨by omega,rfl⟩]
     have xL:Hid (∀W,Zr 252 #[.int .i64 k,.int .u64 i,.string (tx xD)] W (.tuple #[.string ⟨x.toArray⟩,.int .i64 0])):=fun W=>Qa3 W (k:Int) i (by omega) (tx xD) _ _ (Qes (by omega) (by show rnod (k:Int).toNat i xD=some x;simpa using hq))
     have CK:Hid (∀W,Bl wr W->W.cell? ⟨q,1,none⟩=some (.int .i64 k)):=fun W h1=>HC.out W (Qa HW.out h1)
     have xW:(tx xD).size<=9223372036854775807:=by rw[YA];omega
     have HY:=Qc xG;have xH:Hid (∀W W',Bl wr W->Bl W W'->Qh W' w1.heap.size (.slice va j vc) rows∧w1.heap.size<=W'.heap.size∧Bl w1 W'):=fun W W' h1 h2=>⟨QB (QB HO.out h1 (La _)) h2 (La _),(Qa (Qa HW.out h1) h2).size,Qa (Qa HW.out h1) h2⟩
     have xT:=xU.2.2;clear HA HO HW HC HR xC xB hq xA xK xG;generalize tx xD=tr at *
     go_wp2_with (first
      | (go_at_call 245;(with_reducible refine(xI.out _).mono ?_);rintro e w2 ⟨rfl,rfl⟩)
      | (go_at_call 143;(with_reducible refine xE.out.mono ?_);rintro e w3 ⟨rfl,u3⟩;have c1:=CK.out _ u3)
      | (go_at_call 252;(with_reducible refine(xL.out _).mono ?_);rintro e w4 ⟨rfl,u4⟩)
      | (at_builtin;refine QR _ rfl _ _ rfl w1.heap.size _ rows rfl (YD (xH.out _ _ u3 u4).1 _) (Zp w4.heap.size) w4.heap.size 0 1 [tr] rfl (Ux w4 tr xW) (fun h=>by cases h) (by rw[xJ];show j+1<=_;omega) (by have:=(xH.out _ _ u3 u4).2.1;rw[Y6];omega) ?_))
     intro v5 w5 h5 u5;have HZ:Hid (Qh w5 w1.heap.size v5 (rows++[tr])∧Bl w1 w5):=⟨h5,(bal (xH.out _ _ u3 u4).2.2 _).trans u5⟩;clear h5 u5 xH;go_wp2
     go_roundg (m-(j+1))
     case rel=>go_light;exact⟨j+1,rows++[tr],by omega,rfl,by first|rfl|(congr 1;omega),HY.out,HZ.out.1,HZ.out.2⟩
     case measure=>go_light;omega
   ·rw[Le hin] at xA;have xE:=Qc (HR.out wr HW.out i _ _ xA (by omega))
    have xF:rdN k nb m0 m=none:=Qfz (by rw[xB,Le (fun h=>hin (by omega))]) m (by omega)
    have HZ:Hid (∀W,Bl wr W->RnQ w1 (rdN k nb m0 m) (.returned (.tuple #[.slice none 0 0,.int .i64 190])) W):=fun W h1=>by
     rw[xF];exact⟨Qa HW.out h1,rfl⟩
    generalize rdN k nb m0 m=rr at *;clear HA HO HW HC HR xC xB xF hi xA xK
    go_wp2_with (first
     | (go_at_call 245;(with_reducible refine(xI.out _).mono ?_);rintro e w2 ⟨rfl,rfl⟩)
     | (go_at_call 143;(with_reducible refine xE.out.mono ?_);rintro e w3 ⟨rfl,u3⟩))
    go_ret2
    exact HZ.out _ u3
  ·have xO:¬(i:Int)<((m0+m:Nat):Int):=by omega
   obtain rfl:j=m:=by omega
   have HZ:Hid (RnQ w1 (rdN k nb m0 j) (.returned (.tuple #[.slice va j vc,.int .i64 0])) wr):=by
    rw[HA.out];exact⟨HW.out,va,vc,by rw[xJ],by rw[xJ];exact HO.out⟩
   generalize rdN k nb m0 j=rr at *;clear HA HO HW HC HR xC xK
   go_wp2_with (go_at_call 245;(with_reducible refine(xI.out _).mono ?_);rintro e w2 ⟨rfl,rfl⟩)
   go_ret2
   exact HZ.out
end St
namespace St.Rc
variable{s:List UInt8}
def rmT(s:List UInt8):MV×Int:=match rmrk s with
 | some x=>(x,0)
 | none=>(MV.z,180)
theorem QgN(h:rmrk s=none):rmT s=(MV.z,180):=by rw[rmT,h]
theorem QhO{x:MV}(h:rmrk s=some x):rmT s=(x,0):=by rw[rmT,h]
theorem Qdi(w:World)(s:BA)(rm:MV)(re:Int)(h:rmT s.data.toList=(rm,re)) :
  Zr 243 #[.string s] w (.tuple #[.agg (mC rm),.int .i64 re]):=by
 by_cases h64:s.size=64
 ·have z1:((s.size:Int) == 64)=true:=by simp;omega
  obtain⟨wz,xL⟩:=Ze (w.alloc (.cells #[.int .i64 0,.int .u64 0,.int .u64 0,.int .u64 0,.int .u32 0] 239));obtain⟨c0,w1,kb,yF,hy,xN,yG⟩:=O4 wz s 64 h64;have xU:Hid (∀W g,Zr 273 #[.slice (Zp g) 64 c0] W (mP g)):=fun W g=>Qcg W g 64 c0 (by omega)
  have yE:wz.heap.size=w.heap.size+1:=by rw[<-xL];simp
  rw[yE] at kb hy
  go_enter func243,ntmps243
  go_upto_region 4 with (first
   | (go_at_call 273;with_reducible refine(xU.out _ _).mono ?_;rintro e w2 ⟨rfl,xD⟩;unfold mP))
  obtain⟨w3,xJ⟩:=Ze (w2.alloc (.cells (pC (w.heap.size+1)) 339));obtain⟨bp,xQ⟩:=Ze w2.heap.size;have yD:w.heap.size+2<=w2.heap.size:=by have:=xN.size;have:=xD.size;omega
  have HB:Hid (Byt w3 (w.heap.size+1) s.data.toList∧w3.heap[bp]? = some (.cells (pC (w.heap.size+1)) 339 (0,0))∧w3.heap[w.heap.size]? = some (.cells #[.int .i64 0,.int .u64 0,.int .u64 0,.int .u64 0,.int .u32 0] 239 (0,0))∧Bl w w3∧w.heap.size+2<=bp∧bp<w3.heap.size):=by
   have hq:=(hy.next xD (by omega))
   have b2:Bl wz w2:=Qa xN xD;rw[<-xJ,<-xQ];refine⟨hq.same ((MapKept.heap_alloc w2 _).2 _ (by omega)),Yc _ _,?_,bal (Qa (by rw[<-xL];exact bal (Lb _ _) _) b2) _,yD,by simp⟩
   rw[(MapKept.heap_alloc w2 _).2 _ (by omega),b2.block _ (by omega),<-xL]
   exact Yc _ _
  unfold pC at xJ;rw[xJ,xQ];obtain⟨g,hg⟩:=Ze (w.heap.size+1);rw[hg] at HB;rw[hg];have HC:Hid (∀W,Bl w3 W->W.cell? ⟨bp,1,none⟩=some (.slice (some ⟨g,4,none⟩) 1 1)∧W.cell? ⟨bp,2,none⟩=some (.slice (some ⟨g,8,none⟩) 8 8)∧W.cell? ⟨bp,3,none⟩=some (.slice (some ⟨g,16,none⟩) 8 8)∧W.cell? ⟨bp,4,none⟩=some (.slice (some ⟨g,24,none⟩) 8 8)∧W.cell? ⟨bp,5,none⟩=some (.slice (some ⟨g,32,none⟩) 4 4)):=fun W hb=>by
   have hh:W.heap[bp]? = some (.cells (pC g) 339 (0,0)):=(hb.block _ HB.out.2.2.2.2.2).trans HB.out.2.1;refine⟨?_,?_,?_,?_,?_⟩
   iterate 5 (rw[cell_of_row W bp _ _ _ (0,0) hh];rfl)
  obtain⟨n0,xE⟩:=Ze (num ((s.data.toList.drop 4).take 1));obtain⟨n1,xF⟩:=Ze (num ((s.data.toList.drop 8).take 8));obtain⟨n2,xG⟩:=Ze (num ((s.data.toList.drop 16).take 8));obtain⟨n3,xH⟩:=Ze (num ((s.data.toList.drop 24).take 8));obtain⟨n4,xI⟩:=Ze (num ((s.data.toList.drop 32).take 4));have xZ:s.data.toList.length=64:=by rw[Qb,h64]
  have gs:g<w3.heap.size:=by have:=HB.out.2.2.2.2;omega
  have H0:Hid (∀W,Bl w3 W->Re 321 #[.slice (some ⟨g,4,none⟩) 1 1] W (.int .u64 n0)):=fun W hb=>Q9 W g 4 1 1 _ (HB.out.1.next hb gs) (by omega) (by decide) n0 xE
  have H1:Hid (∀W,Bl w3 W->Re 321 #[.slice (some ⟨g,8,none⟩) 8 8] W (.int .u64 n1)):=fun W hb=>Q9 W g 8 8 8 _ (HB.out.1.next hb gs) (by omega) (by decide) n1 xF
  have H2:Hid (∀W,Bl w3 W->Re 321 #[.slice (some ⟨g,16,none⟩) 8 8] W (.int .u64 n2)):=fun W hb=>Q9 W g 16 8 8 _ (HB.out.1.next hb gs) (by omega) (by decide) n2 xG
  have H3:Hid (∀W,Bl w3 W->Re 321 #[.slice (some ⟨g,24,none⟩) 8 8] W (.int .u64 n3)):=fun W hb=>Q9 W g 24 8 8 _ (HB.out.1.next hb gs) (by omega) (by decide) n3 xH
  have H4:Hid (∀W,Bl w3 W->Re 321 #[.slice (some ⟨g,32,none⟩) 4 4] W (.int .u64 n4)):=fun W hb=>Q9 W g 32 4 4 _ (HB.out.1.next hb gs) (by omega) (by decide) n4 xI
  have l0:n0<256:=by rw[<-xE];exact OR _ 1 (by simp;omega)
  have l1:n1<256^8:=by rw[<-xF];exact OR _ 8 (by simp;omega)
  have l2:n2<256^8:=by rw[<-xG];exact OR _ 8 (by simp;omega)
  have l3:n3<256^8:=by rw[<-xH];exact OR _ 8 (by simp;omega)
  have l4:n4<256^4:=by rw[<-xI];exact OR _ 4 (by simp;omega)
  have v0:IntKind.i64.wrap (n0:Int)=(n0:Int):=by rw[Lq];omega
  have v4:IntKind.u32.wrap (n4:Int)=(n4:Int):=by rw[IntKind.wrap_u32];omega
  have yH:(n4:Int)%4294967296=(n4:Int):=by omega
  have xR:mOf s.data.toList=⟨(n0:Int),n1,n2,n3,BitVec.ofNat 32 n4⟩:=by rw[mOf,xE,xF,xG,xH,xI]
  have hD:=Ow (Lb w3.heap.size w3);clear xJ xQ hy xN xD kb xL xU xE xF xG xH xI;obtain⟨t,ht⟩:∃t:BA,(⟨(mrk (mOf s.data.toList)).toArray⟩:BA)=t:=⟨_,rfl⟩;have xT:Hid (Calls prog 177 #[.agg #[.int .i64 n0,.int .u64 n1,.int .u64 n2,.int .u64 n3,.int .u32 n4]] (w3.alloc (.cells #[.int .i64 n0,.int .u64 n1,.int .u64 n2,.int .u64 n3,.int .u32 n4] 239)).drew fun e w'=>e= .returned (.string t)∧(w'.cell? ⟨w3.heap.size,0,none⟩=some (.int .i64 n0)∧w'.cell? ⟨w3.heap.size,1,none⟩=some (.int .u64 n1)∧w'.cell? ⟨w3.heap.size,2,none⟩=some (.int .u64 n2)∧w'.cell? ⟨w3.heap.size,3,none⟩=some (.int .u64 n3)∧w'.cell? ⟨w3.heap.size,4,none⟩=some (.int .u32 n4))∧w'.heap[w.heap.size]? = some (.cells #[.int .i64 0,.int .u64 0,.int .u64 0,.int .u64 0,.int .u32 0] 239 (0,0))∧Bl w w'):=by
   have e4:(BitVec.ofNat 32 n4).toNat=n4:=by rw[BitVec.toNat_ofNat];omega
   obtain⟨wa,xK⟩:=Ze ((w3.alloc (.cells #[.int .i64 n0,.int .u64 n1,.int .u64 n2,.int .u64 n3,.int .u32 n4] 239)).drew);have xX:wa.heap[w3.heap.size]? = some (.cells #[.int .i64 n0,.int .u64 n1,.int .u64 n2,.int .u64 n3,.int .u32 n4] 239 (0,0)):=by rw[<-xK];exact Yc w3 _
   have xY:wa.heap[w.heap.size]? = some (.cells #[.int .i64 0,.int .u64 0,.int .u64 0,.int .u64 0,.int .u32 0] 239 (0,0)):=by
    rw[<-xK];exact((MapKept.heap_alloc w3 _).2 _ (by have:=HB.out.2.2.2.2;omega)).trans HB.out.2.2.1
   have yB:Bl w wa:=by rw[<-xK];exact Ow (bal HB.out.2.2.2.1 _)
   rw[xK];have:=Qfe wa ⟨(n0:Int),n1,n2,n3,BitVec.ofNat 32 n4⟩ l1 l2 l3 t (by rw[<-xR];exact ht)
   unfold mC at this;simp only[e4] at this;refine this.mono ?_
   rintro e w' ⟨rfl,hb⟩;have hh:=(hb.block _ (Array.getElem?_eq_some_iff.1 xX).1).trans xX
   refine⟨rfl,?_,(hb.block _ (Array.getElem?_eq_some_iff.1 xY).1).trans xY,Qa yB hb⟩
   refine⟨?_,?_,?_,?_,?_⟩
   iterate 5 (rw[cell_of_row w' _ _ _ _ (0,0) hh];rfl)
  have xV:Hid (∀W:World,W.heap[w.heap.size]? = some (.cells #[.int .i64 0,.int .u64 0,.int .u64 0,.int .u64 0,.int .u32 0] 239 (0,0))->(W.cell? ⟨w.heap.size,0,none⟩=some (.int .i64 0)∧W.cell? ⟨w.heap.size,1,none⟩=some (.int .u64 0)∧W.cell? ⟨w.heap.size,2,none⟩=some (.int .u64 0)∧W.cell? ⟨w.heap.size,3,none⟩=some (.int .u64 0)∧W.cell? ⟨w.heap.size,4,none⟩=some (.int .u32 0))∧W.frozen? ⟨w.heap.size,0,none⟩=false∧W.frozen? ⟨w.heap.size,1,none⟩=false∧W.frozen? ⟨w.heap.size,2,none⟩=false∧W.frozen? ⟨w.heap.size,3,none⟩=false∧W.frozen? ⟨w.heap.size,4,none⟩=false):=fun W hh=>by
   refine⟨⟨?_,?_,?_,?_,?_⟩,?_,?_,?_,?_,?_⟩
   iterate 5 (rw[cell_of_row W _ _ _ _ (0,0) hh];rfl)
   iterate 5 (exact frozen_of_row W _ _ _ _ hh)
  have xS:Hid (∀(W:World) (m:MV),W.heap[w.heap.size]? = some (.cells #[.int .i64 0,.int .u64 0,.int .u64 0,.int .u64 0,.int .u32 0] 239 (0,0))->Bl w W -> ∃W',(((((W.setCell ⟨w.heap.size,0,none⟩ (.int .i64 m.k)).setCell ⟨w.heap.size,1,none⟩ (.int .u64 m.size)).setCell ⟨w.heap.size,2,none⟩ (.int .u64 m.items)).setCell ⟨w.heap.size,3,none⟩ (.int .u64 m.nodes)).setCell ⟨w.heap.size,4,none⟩ (.int .u32 m.chain.toNat))=W'∧(W'.cell? ⟨w.heap.size,0,none⟩=some (.int .i64 m.k)∧W'.cell? ⟨w.heap.size,1,none⟩=some (.int .u64 m.size)∧W'.cell? ⟨w.heap.size,2,none⟩=some (.int .u64 m.items)∧W'.cell? ⟨w.heap.size,3,none⟩=some (.int .u64 m.nodes)∧W'.cell? ⟨w.heap.size,4,none⟩=some (.int .u32 m.chain.toNat))∧Bl w W'):=fun W m hh hb=>by
   have q1:=Lm W w.heap.size 0 _ _ (.int .i64 m.k) hh;have q2:=Lm _ w.heap.size 1 _ _ (.int .u64 m.size) q1;have q3:=Lm _ w.heap.size 2 _ _ (.int .u64 m.items) q2;have q4:=Lm _ w.heap.size 3 _ _ (.int .u64 m.nodes) q3;have q5:=Lm _ w.heap.size 4 _ _ (.int .u32 m.chain.toNat) q4;refine⟨_,rfl,⟨?_,?_,?_,?_,?_⟩,((((hb.setCell (La _) _).setCell (La _) _).setCell (La _) _).setCell (La _) _).setCell (La _) _⟩
   iterate 5 (rw[cell_of_row _ _ _ _ _ (0,0) q5];rfl)
  have HT:Hid ((⟨(mrk (mOf s.data.toList)).toArray⟩:BA)=t∧mOf s.data.toList=⟨(n0:Int),n1,n2,n3,BitVec.ofNat 32 n4⟩∧n4<256^4∧s.data.toList.length=64∧rmT s.data.toList=(rm,re)):=⟨ht,xR,l4,xZ,h⟩;clear ht xR l0 l1 l2 l3 l4 xZ h
  go_cut [5] from 13 to 30 (fun x wx=>x=Pq w3.heap.size∧wx=(w3.alloc (.cells #[.int .i64 n0,.int .u64 n1,.int .u64 n2,.int .u64 n3,.int .u32 n4] 239)).drew)
  case first=>
   go_region_held3 (fun Z=>Z.cell? ⟨bp,1,none⟩=some (.slice (some ⟨g,4,none⟩) 1 1)∧Z.cell? ⟨bp,2,none⟩=some (.slice (some ⟨g,8,none⟩) 8 8)∧Z.cell? ⟨bp,3,none⟩=some (.slice (some ⟨g,16,none⟩) 8 8)∧Z.cell? ⟨bp,4,none⟩=some (.slice (some ⟨g,24,none⟩) 8 8)∧Z.cell? ⟨bp,5,none⟩=some (.slice (some ⟨g,32,none⟩) 4 4)) (first|assumption|(exact HC.out _ hD)|(exact HC.out _ (Ow (bal (Lb _ _) _)))) (first
    | (go_at_call 321;(first
      | (with_reducible refine(H0.out _ hD).mono ?_)|(with_reducible refine(H0.out _ (Ow (bal (Lb _ _) _))).mono ?_)
      | (with_reducible refine(H1.out _ hD).mono ?_)|(with_reducible refine(H1.out _ (Ow (bal (Lb _ _) _))).mono ?_)
      | (with_reducible refine(H2.out _ hD).mono ?_)|(with_reducible refine(H2.out _ (Ow (bal (Lb _ _) _))).mono ?_)
      | (with_reducible refine(H3.out _ hD).mono ?_)|(with_reducible refine(H3.out _ (Ow (bal (Lb _ _) _))).mono ?_)
      | (with_reducible refine(H4.out _ hD).mono ?_)|(with_reducible refine(H4.out _ (Ow (bal (Lb _ _) _))).mono ?_));rintro e w4 ⟨rfl,rfl⟩))
   all_goals
    go_wp2_with fail
    go_meet
    case rel=>exact⟨rfl,rfl⟩
  case rest=>
   obtain⟨rfl,rfl⟩:=hcut;clear HC H0 H1 H2 H3 H4 hD
   by_cases heq:t=s
   ·have yC:=Qbq heq;obtain⟨xA,xM,yA,xW,h⟩:=HT.out;have e4:(BitVec.ofNat 32 n4).toNat=n4:=by rw[BitVec.toNat_ofNat];omega
    rw[QhO (x:=⟨(n0:Int),n1,n2,n3,BitVec.ofNat 32 n4⟩) (by rw[rmrk,xM];refine Lf ⟨xW,?_⟩;have:=Lv (fun z:BA=>z.data.toList) (xA.trans heq);rw[xM] at this;exact this)] at h
    obtain⟨rfl,rfl⟩:(⟨(n0:Int),n1,n2,n3,BitVec.ofNat 32 n4⟩:MV)=rm∧0=re:=by simpa using h
    clear xA xM yA xW h heq
    go_wp2_with (go_at_call 177;with_reducible refine xT.out.mono ?_;rintro e w5 ⟨rfl,⟨m0,m1,m2,m3,m4⟩,xB,xO⟩;obtain⟨⟨r0,r1,r2,r3,r4⟩,f0,f1,f2,f3,f4⟩:=xV.out _ xB)
    obtain⟨w6,xC,⟨x0,x1,x2,x3,x4⟩,xP⟩:=xS.out w5 ⟨(n0:Int),n1,n2,n3,BitVec.ofNat 32 n4⟩ xB xO;simp only[e4] at xC x4;rw[xC];exact LD (v := .tuple #[.agg (mC ⟨(n0:Int),n1,n2,n3,BitVec.ofNat 32 n4⟩),.int .i64 0]) (by simp[results,results243,go_sem,x0,x1,x2,x3,x4,mC];omega) rfl ⟨rfl,xP⟩
   ·have yC:=QdD heq;obtain⟨xA,_,_,_,h⟩:=HT.out;rw[QgN (Le fun q=>heq (QbK (by rw[<-xA];exact q.2)))] at h
    obtain⟨rfl,rfl⟩:MV.z=rm∧180=re:=by simpa using h
    clear xA h heq
    go_wp2_with (go_at_call 177;with_reducible refine xT.out.mono ?_;rintro e w5 ⟨rfl,⟨m0,m1,m2,m3,m4⟩,xB,xO⟩;obtain⟨⟨r0,r1,r2,r3,r4⟩,f0,f1,f2,f3,f4⟩:=xV.out _ xB)
    obtain⟨w6,xC,⟨x0,x1,x2,x3,x4⟩,xP⟩:=xS.out w5 MV.z xB xO;simp only[MV.z,show(0#32).toNat=0 from rfl,show((0:Nat):Int)=0 from rfl] at xC x0 x1 x2 x3 x4
    rw[xC];exact LD (v := .tuple #[.agg (mC MV.z),.int .i64 180]) (by simp[results,results243,go_sem,x0,x1,x2,x3,x4,mC,MV.z]) rfl ⟨rfl,xP⟩
 ·have z1:((s.size:Int) == 64)=false:=by simp;omega
  rw[QgN (Le fun q=>h64 (by rw[<-Qb];exact q.1))] at h
  obtain⟨rfl,rfl⟩:MV.z=rm∧180=re:=by simpa using h
  clear h
  go_enter func243,ntmps243;go_wp2;exact LD (v := .tuple #[.agg (mC MV.z),.int .i64 180]) (by simp[results,results243,go_sem,mC,MV.z]) rfl ⟨rfl,bal (Lb _ _) _⟩
end St.Rc
namespace St
open Rc
theorem dN(w:World)(n:Nat):Bl w (w.drewN n):=Qi (Lb _ _) n
section
variable {q p:Nat} {T:Nat->Prop} {D:DV} {S:SV}
def TkQ(w:World)(q p:Nat)(T:Nat->Prop)(D:DV)(S:SV)(o:Option (List Nat×BitVec 32))(e:Ending)(w':World):Prop:=match o with
 | none=>e= .returned (.int .i64 190)∧SkM w w' q p T D S
 | some st=>e= .returned (.int .i64 0)∧SkM w w' q p T D { S with ends:=st.1,chain:=st.2 }
variable{k:Nat}{a b:List UInt8}{m:MV}
theorem QoZ{w w':World}(h:Sk w q p T D S)(hb:Bl w w'){o:Option (List Nat×BitVec 32)}(ho:o=none):TkQ w q p T D S o (.returned (.int .i64 190)) w':=by
 rw[ho];exact⟨rfl,SkM.of h hb⟩
theorem Qma{st:List Nat×BitVec 32}{row:List UInt8}(h:rmrk row=none):tkN k a b st row=none:=by unfold tkN;rw[h]
theorem QbG{st:List Nat×BitVec 32}{row:List UInt8}(h:rmrk row=some m)(hc:65536<=st.1.length∨m.items<=lst st.1∨a.length<m.items∨whl ((a.drop (lst st.1)).take (m.items-lst st.1))=false):tkN k a b st row=none:=by
 unfold tkN;rw[h];exact Lf hc
theorem Qjv{st:List Nat×BitVec 32}{row:List UInt8}(h:rmrk row=some m)(hr:rdN k b (nn st.1.length) (nn (st.1.length+1)-nn st.1.length)=none):tkN k a b st row=none:=by
 unfold tkN;rw[h];simp only
 split
 ·rfl
 ·rw[hr]
theorem Qow{st:List Nat×BitVec 32}{row:List UInt8}{rows:LB}(h:rmrk row=some m)(hc:¬(65536<=st.1.length∨m.items<=lst st.1∨a.length<m.items∨whl ((a.drop (lst st.1)).take (m.items-lst st.1))=false))(hr:rdN k b (nn st.1.length) (nn (st.1.length+1)-nn st.1.length)=some rows) :
  tkN k a b st row=if m=nxM k st.1 st.2 ((a.drop (lst st.1)).take (m.items-lst st.1)) rows then some (st.1++[m.items],m.chain) else none:=by
 unfold tkN;rw[h];simp only;rw[Le hc,hr]
theorem QeH(w:World)(h:Sk w q p T D S)(hd:D.down=false)(row:BA) :
  Calls prog 154 #[Pq q,.string row] w (TkQ w q p T D S (tkN S.k (now D nmI) (now D nmN) (S.ends,S.chain) row.data.toList)):=by
 obtain⟨yT,yU,hf,_,_,xU⟩:=h.small;obtain⟨ea,ec,xN⟩:=h.seen
 cases hm:rmrk row.data.toList with
 | none=>
  have HM:Hid (Zr 243 #[.string row] w (.tuple #[.agg #[.int .i64 0,.int .u64 0,.int .u64 0,.int .u64 0,.int .u32 0],.int .i64 180])):=Qdi w row _ _ (QgN hm);have HZ:Hid (∀W,Bl w W->TkQ w q p T D S (tkN S.k (now D nmI) (now D nmN) (S.ends,S.chain) row.data.toList) (.returned (.int .i64 190)) W):=fun W hW=>QoZ h hW (Qma hm)
  generalize tkN S.k (now D nmI) (now D nmN) (S.ends,S.chain) row.data.toList=o at *;clear h hm xN
  go_enter func154,ntmps154
  go_wp2_with (go_at_call 243;(with_reducible refine HM.out.mono ?_);rintro e w1 ⟨rfl,u1⟩)
  go_ret
  exact HZ.out _ (bal u1 _)
 | some m=>
  obtain⟨m0,e0⟩:=Ze m.k;obtain⟨m1,e1⟩:=Ze m.size;obtain⟨m2,e2⟩:=Ze m.items;obtain⟨m3,e3⟩:=Ze m.nodes;obtain⟨md,e4⟩:=Ze m.chain.toNat;have HM:Hid (Zr 243 #[.string row] w (.tuple #[.agg #[.int .i64 m0,.int .u64 m1,.int .u64 m2,.int .u64 m3,.int .u32 md],.int .i64 0])):=by
   have:=Qdi w row _ _ (QhO hm);rw[mC,e0,e1,e2,e3,e4] at this;exact this
  have HZ:Hid (∀W,Bl w W->tkN S.k (now D nmI) (now D nmN) (S.ends,S.chain) row.data.toList=none->TkQ w q p T D S (tkN S.k (now D nmI) (now D nmN) (S.ends,S.chain) row.data.toList) (.returned (.int .i64 190)) W):=fun W hW ho=>QoZ h hW ho
  have CQ:Hid (∀W,Bl w W->W.cell? ⟨q,0,none⟩=some (Pq p)∧W.cell? ⟨q,2,none⟩=some (.slice ea S.ends.length ec)):=fun W hW=>⟨(xN W hW).1,(xN W hW).2.2.1⟩
  by_cases hB:65536<=S.ends.length
  ·have xB:=Qc (fun W hW=>HZ.out W hW (QbG hm (.inl hB)))
   have xT:(65536:Int)<=(S.ends.length:Int):=by omega
   generalize tkN S.k (now D nmI) (now D nmN) (S.ends,S.chain) row.data.toList=o at *;clear h hm xN HZ e0 e1 e2 e3 e4;generalize S.ends.length=n at *
   go_enter func154,ntmps154
   go_wp2_with (go_at_call 243;(with_reducible refine HM.out.mono ?_);rintro e w1 ⟨rfl,u1⟩;have cq:=(CQ.out _ u1).2;have xZ:=(CQ.out _ (bal u1 (.cells #[.int .i64 m0,.int .u64 m1,.int .u64 m2,.int .u64 m3,.int .u32 md] 239))).2)
   go_ret
   exact xB.out _ (bal u1 _)
  ·have xT:¬(65536:Int)<=(S.ends.length:Int):=by omega
   have HL:Hid (∀W,Bl w W->Re 155 #[Pq q,.string ⟨#[105,116,101,109,115]⟩] W (.int .i64 (lst S.ends:Int))):=fun W hW=>YN W (h.next hW)
   have yH:=h.sz nmI;have yG:Jy D nmI=(now D nmI).length:=by unfold Jy now;rw[hd];rfl
   have HS:Hid (∀W,Bl w W->Re 151 #[Pq p,.string ⟨#[105,116,101,109,115]⟩] W (.int .i64 ((now D nmI).length:Int))):=fun W hW=>by
    have:=(h.next hW).size ⟨#[105,116,101,109,115]⟩ (by decide)
    rw[show(ByteArray.mk #[105,116,101,109,115]).data.toList=nmI from rfl,yG] at this
    exact this
   obtain⟨ls,xV⟩:=Ze (lst S.ends);obtain⟨li,xS⟩:=Ze ((now D nmI).length);have yN:li<=268435456:=by rw[<-xS];exact yH
   rw[xV] at HL xU;rw[xS] at HS;have yO:IntKind.u64.wrap (ls:Int)=(ls:Int):=Y5 _ (by omega) (by omega)
   have yP:IntKind.u64.wrap (li:Int)=(li:Int):=Y5 _ (by omega) (by omega)
   have CM:Hid (∀w1 W,Bl w w1->Below (w1.alloc (.cells #[.int .i64 m0,.int .u64 m1,.int .u64 m2,.int .u64 m3,.int .u32 md] 239)).heap.size (w1.alloc (.cells #[.int .i64 m0,.int .u64 m1,.int .u64 m2,.int .u64 m3,.int .u32 md] 239)) W->Bl w W∧W.cell? ⟨w1.heap.size,0,none⟩=some (.int .i64 m0)∧W.cell? ⟨w1.heap.size,1,none⟩=some (.int .u64 m1)∧W.cell? ⟨w1.heap.size,2,none⟩=some (.int .u64 m2)∧W.cell? ⟨w1.heap.size,3,none⟩=some (.int .u64 m3)∧W.cell? ⟨w1.heap.size,4,none⟩=some (.int .u32 md)):=fun w1 W hb hW=>⟨Qa (bal hb _) hW,Ys ((hW.block w1.heap.size (by rw[Y6];omega)).trans (Yc _ _))⟩
   have HE:=Qc (Nx e0 (Nx e1 (Nx e2 (Nx e3 e4))));have xG:=Qc xV;have xE:=Qc xS;have xC:=Qc hm;have xF:=Qc h;clear e0 e1 e2 e3 e4 xV xS hm h yG yH xN;obtain⟨o,ho⟩:=Ze (tkN S.k (now D nmI) (now D nmN) (S.ends,S.chain) row.data.toList);rw[ho] at HZ ⊢;have xK:=Qc ho;obtain⟨n,hn⟩:=Ze S.ends.length;rw[hn] at hB xT hf CQ;have xP:=Qc hn;have yS:(n:Int)<65536:=by omega
   have xY:=Qc hB;clear ho hn hB hf xT
   go_enter func154,ntmps154
   go_upto_region 2 with (go_at_call 243;(with_reducible refine HM.out.mono ?_);rintro e w1 ⟨rfl,u1⟩;have cq:=(CQ.out _ u1).2;have xZ:=(CQ.out _ (bal u1 (.cells #[.int .i64 m0,.int .u64 m1,.int .u64 m2,.int .u64 m3,.int .u32 md] 239))).2)
   have yK:decide ((65536:Int)<=(n:Int))=false:=LA (by omega)
   have yL:decide (65536<=n)=false:=LA xY.out
   go_upto_region 5 with (go_at_call 155;(with_reducible refine(HL.out _ (bal u1 _)).mono ?_);rintro e w2 ⟨rfl,rfl⟩)
   have k2:=fun W=>CM.out w1 W u1
   obtain⟨bm,yE⟩:=Ze w1.heap.size;have u2:=bal u1 (.cells #[.int .i64 m0,.int .u64 m1,.int .u64 m2,.int .u64 m3,.int .u32 md] 239);rw[yE] at k2 ⊢;generalize w1.alloc (.cells #[.int .i64 m0,.int .u64 m1,.int .u64 m2,.int .u64 m3,.int .u32 md] 239)=w2 at *;have K2:=Qc k2;clear k2 CM cq xZ yE u1 HM
   by_cases hC:m2<=ls
   ·have yA:decide ((m2:Int)<=(ls:Int))=true:=LW (by omega)
    have yB:decide (m2<=ls)=true:=LW hC
    have xB:Hid (∀W,Bl w2 W->TkQ w q p T D S o (.returned (.int .i64 190)) W):=fun W hW=>HZ.out W (K2.out W hW).1 (xK.out.symm.trans (QbG xC.out (.inr (.inl (by rw[HE.out.2.2.1];exact Lr hC (NE xG.out.symm))))))
    have ⟨uq,d0,d1,d2,d3,d4⟩:=K2.out w2 (Lb _ _);have q0:=(CQ.out _ u2).1
    go_quiet (first
      | (go_at_call 151;refine Calls.quiet_of_same (HS.out _ (K2.out _ (dN w2 _)).1)))
    all_goals
     go_wp2
     go_ret
     exact xB.out _ (dN w2 _)
   ·have yA:decide ((m2:Int)<=(ls:Int))=false:=LA (by omega)
    have yB:decide (m2<=ls)=false:=LA hC
    by_cases hD:li<m2
    ·have yC:decide ((li:Int)<(m2:Int))=true:=LW (by omega)
     have yD:decide (li<m2)=true:=LW hD
     have xB:Hid (∀W,Bl w2 W->TkQ w q p T D S o (.returned (.int .i64 190)) W):=fun W hW=>HZ.out W (K2.out W hW).1 (xK.out.symm.trans (QbG xC.out (.inr (.inr (.inl (by rw[HE.out.2.2.1,xE.out];exact hD))))))
     have ⟨uq,d0,d1,d2,d3,d4⟩:=K2.out w2 (Lb _ _);have q0:=(CQ.out _ u2).1
     go_quiet (first
      | (go_at_call 151;refine Calls.quiet_of_same (HS.out _ (K2.out _ (dN w2 _)).1)))
     all_goals
      go_wp2
      go_ret
      exact xB.out _ (dN w2 _)
    ·have yC:decide ((li:Int)<(m2:Int))=false:=LA (by omega)
     have yD:decide (li<m2)=false:=LA hD
     have ⟨uq,d0,d1,d2,d3,d4⟩:=K2.out w2 (Lb _ _);have q0:=(CQ.out _ u2).1
     go_quiet (first
      | (go_at_call 151;refine Calls.quiet_of_same (HS.out _ (K2.out _ (dN w2 _)).1)))
     have u3:=dN w2 nq;generalize w2.drewN nq=w3 at *;obtain⟨pl,xJ⟩:=Ze (((now D nmI).drop ls).take (m2-ls));have yV:pl.length=m2-ls:=by rw[<-xJ,Lx,Ni,xE.out];omega
     have xI:((now D nmI).drop (lst (S.ends,S.chain).1)).take (m.items-lst (S.ends,S.chain).1)=pl:=by rw[<-xJ,HE.out.2.2.1];show List.take (m2-lst S.ends) (List.drop (lst S.ends) _)=_;rw[xG.out]
     have HR:Hid (∀W,Bl w2 W->Calls prog 143 #[Pq q,.string ⟨#[105,116,101,109,115]⟩,.int .i64 ls,.int .i64 ((m2:Int)-(ls:Int))] W fun e w'=>e= .returned (.tuple #[.string (tx pl),.int .i64 0])∧Bl w2 w'):=fun W hW=>by
      have h1:=Qau hd nmI ls (m2-ls);rw[xE.out,Lf (by omega),xJ] at h1
      rw[show(m2:Int)-(ls:Int)=((m2-ls:Nat):Int) by omega]
      exact(J8 W (xF.out.next (K2.out W hW).1) ⟨#[105,116,101,109,115]⟩ (by decide) _ _ (by omega) (by omega) (by omega) (by omega) (tx pl) 0 (by rw[show(ByteArray.mk #[105,116,101,109,115]).data.toList=nmI from rfl,h1]) (by rw[show(ByteArray.mk #[105,116,101,109,115]).data.toList=nmI from rfl,h1])).mono fun e w' z=>⟨z.1,Qa hW z.2⟩
     have yQ:IntKind.i64.wrap (m2:Int)=(m2:Int):=by rw[Lq];omega
     have yR:IntKind.i64.wrap ((m2:Int)-(ls:Int))=(m2:Int)-(ls:Int):=by rw[Lq];omega
     have ⟨_,_,_,c2,_,_⟩:=K2.out w3 u3;clear d0 d1 d2 d3 d4 q0 uq HS HL yA yB yC yD yK yL
     by_cases hW:whl pl=false
     ·have xM:Hid (∀W,Zr 144 #[.string (tx pl)] W (.tuple #[.string (whT pl),.bool false])):=fun W=>Qba W (tx pl) (by rw[YA];omega) false hW _ rfl
      have xB:Hid (∀W,Bl w2 W->TkQ w q p T D S o (.returned (.int .i64 190)) W):=fun W hW'=>HZ.out W (K2.out W hW').1 (xK.out.symm.trans (QbG xC.out (.inr (.inr (.inr (by rw[xI];exact hW))))))
      clear xI xJ xF HE xG xE xC;generalize tx pl=tp at *;generalize whT pl=tw at *
      go_wp2_with (first
       | (go_at_call 143;(with_reducible refine(HR.out _ u3).mono ?_);rintro e w4 ⟨rfl,u4⟩)
       | (go_at_call 144;(with_reducible refine(xM.out _).mono ?_);rintro e w5 ⟨rfl,u5⟩))
      go_ret
      exact xB.out _ (Qa u4 u5)
     ·have xM:Hid (∀W,Zr 144 #[.string (tx pl)] W (.tuple #[.string (whT pl),.bool true])):=fun W=>Qba W (tx pl) (by rw[YA];omega) true (by show whl pl=true;simpa using hW) _ rfl
      have xA:Hid (∀W,Bl w2 W->Calls prog 244 #[Pq q] W (RnQ W (rdN S.k (now D nmN) (nn S.ends.length) (nn (S.ends.length+1)-nn S.ends.length)))):=fun W hW'=>Qd5 W (xF.out.next (K2.out W hW').1) hd (by rw[xP.out];omega)
      cases hN:rdN S.k (now D nmN) (nn S.ends.length) (nn (S.ends.length+1)-nn S.ends.length) with
      | none=>
       rw[hN] at xA;have xQ:Hid (∀W,Bl w2 W->Calls prog 244 #[Pq q] W fun e w'=>e= .returned (.tuple #[.slice none 0 0,.int .i64 190])∧Bl w2 w'):=fun W hW'=>(xA.out W hW').mono fun e w' z=>⟨z.2,Qa hW' z.1⟩
       have xB:Hid (∀W,Bl w2 W->TkQ w q p T D S o (.returned (.int .i64 190)) W):=fun W hW'=>HZ.out W (K2.out W hW').1 (xK.out.symm.trans (Qjv xC.out hN))
       clear xI xJ xF HE xG xE xC xA hN;generalize tx pl=tp at *;generalize whT pl=tw at *
       go_wp2_with (first
        | (go_at_call 143;(with_reducible refine(HR.out _ u3).mono ?_);rintro e w4 ⟨rfl,u4⟩)
        | (go_at_call 144;(with_reducible refine(xM.out _).mono ?_);rintro e w5 ⟨rfl,u5⟩)
        | (go_at_call 244;(with_reducible refine(xQ.out _ (Qa u4 u5)).mono ?_);rintro e w6 ⟨rfl,u6⟩))
       go_ret
       exact xB.out _ u6
      | some rows=>
       rw[hN] at xA;obtain⟨yF,xX⟩:=Qek _ _ _ hN;obtain⟨rl,xD⟩:=Ze rows.length;have xQ:Hid (∀W,Bl w2 W->Calls prog 244 #[Pq q] W fun e w'=> ∃va vc,e= .returned (.tuple #[.slice va rl vc,.int .i64 0])∧Qh w' W.heap.size (.slice va rl vc) rows∧Bl w2 w'):=fun W hW'=>(xA.out W hW').mono fun e w' z=>by
        obtain⟨z1,va,vc,z2,z3⟩:=z;rw[xD] at z2 z3;exact⟨va,vc,z2,z3,Qa hW' z1⟩
       obtain⟨m',xW⟩:∃m',nxM S.k S.ends S.chain pl rows=m':=⟨_,rfl⟩;have xL:tkN S.k (now D nmI) (now D nmN) (S.ends,S.chain) row.data.toList=if m=m' then some (S.ends++[m.items],m.chain) else none:=by
        have yM:¬(65536<=(S.ends,S.chain).1.length∨m.items<=lst (S.ends,S.chain).1∨(now D nmI).length<m.items∨whl (((now D nmI).drop (lst (S.ends,S.chain).1)).take (m.items-lst (S.ends,S.chain).1))=false):=by
         rw[xI,HE.out.2.2.1,xE.out]
         show ¬(65536<=S.ends.length∨m2<=lst S.ends∨li<m2∨whl pl=false)
         rw[xG.out,xP.out];have:=xY.out;simp only[not_or];exact⟨this,hC,hD,hW⟩
        rw[Qow xC.out yM hN,xI,<-xW]
       have xR:Hid (∀w6 va vc B,Bl w2 w6->Qh w6 B (.slice va rl vc) rows -> ∀W,Bl w6 W->Calls prog 169 #[Pq q,.string (tx pl),.slice va rl vc] W fun e w'=>e= .returned (.agg (mC m'))∧Bl w6 w'):=fun w6 va vc B u6 o6 W hW'=>by
        obtain⟨yW,rb,yX,hv,yI,_,_⟩:=Ya o6 (fun s hs=>by rw[xX s hs];omega)
        injection hv with e1 e2 e3
        subst e1 e3;rw[xD] at yI;exact(Qc0 W (xF.out.next (K2.out W (Qa u6 hW')).1) (tx pl) (by rw[YA];omega) va rb 0 rl vc rows (yI.next hW' (La _)) (by have:=Us S.ends.length (by rw[xP.out];omega);omega) m' xW).mono fun e w' z=>⟨z.1,Qa hW' z.2⟩
       by_cases hE:m=m'
       ·rw[Lf hE] at xL;subst hE;have yJ:Hid (∀W,Bl w2 W->Calls prog 179 #[Pq q,.agg #[.int .i64 m0,.int .u64 m1,.int .u64 m2,.int .u64 m3,.int .u32 md]] W fun e w'=>e= .returned (.tuple #[])∧TkQ w q p T D S o (.returned (.int .i64 0)) w'):=fun W hW'=>by
         have:=UH W (xF.out.next (K2.out W hW').1) m (by rw[HE.out.2.2.1];omega) (by rw[xP.out];omega)
         rw[mC,HE.out.1,HE.out.2.1,HE.out.2.2.1,HE.out.2.2.2.1,HE.out.2.2.2.2] at this;refine this.mono fun e w' z=>⟨z.1,?_⟩
         rw[<-xK.out,xL,HE.out.2.2.1];exact⟨rfl,z.2.first (K2.out W hW').1⟩
        rw[mC,HE.out.1,HE.out.2.1,HE.out.2.2.1,HE.out.2.2.2.1,HE.out.2.2.2.2] at xR;clear xI xJ xF HE xG xE xC xA hN xL xX yF xD hW;generalize tx pl=tp at *;generalize whT pl=tw at *
        go_upto_region 16 with (first
         | (go_at_call 143;(with_reducible refine(HR.out _ u3).mono ?_);rintro e w4 ⟨rfl,u4⟩)
         | (go_at_call 144;(with_reducible refine(xM.out _).mono ?_);rintro e w5 ⟨rfl,u5⟩)
         | (go_at_call 244;(with_reducible refine(xQ.out _ (Qa u4 u5)).mono ?_);rintro e w6 ⟨va,vc,rfl,o6,u6⟩))
        have xH:=Qc (fun W hW=>xR.out w6 va vc _ u6 o6 W hW)
        have u:=bdz w6;have ⟨c20,c21,c22,c23,c24⟩:=(K2.out w6 u6).2
        go_region_held3 (fun Z=>Z.cell? ⟨bm,0,none⟩=some (.int .i64 m0)∧Z.cell? ⟨bm,1,none⟩=some (.int .u64 m1)∧Z.cell? ⟨bm,2,none⟩=some (.int .u64 m2)∧Z.cell? ⟨bm,3,none⟩=some (.int .u64 m3)∧Z.cell? ⟨bm,4,none⟩=some (.int .u32 md)) (first|assumption|(with_reducible exact(K2.out _ (Qa u6 u)).2)) (first
         | (go_at_call 169;(with_reducible refine(xH.out _ u).mono ?_);rintro e w7 ⟨rfl,u⟩))
        all_goals
         have u7:=Qa u6 u;have ⟨y20,y21,y22,y23,y24⟩:=(K2.out _ u7).2
         go_wp2_with (go_at_call 179;(with_reducible refine(yJ.out _ u7).mono ?_);rintro e w8 ⟨rfl,t8⟩)
         go_ret
         exact t8
       ·rw[Le hE] at xL;have xB:Hid (∀W,Bl w2 W->TkQ w q p T D S o (.returned (.int .i64 190)) W):=fun W hW'=>HZ.out W (K2.out W hW').1 (xK.out.symm.trans xL)
        obtain⟨n0,f0⟩:=Ze m'.k;obtain⟨n1,f1⟩:=Ze m'.size;obtain⟨n2,f2⟩:=Ze m'.items;obtain⟨n3,f3⟩:=Ze m'.nodes;obtain⟨nd,f4⟩:=Ze m'.chain.toNat;have xO:¬(m0=n0∧m1=n1∧m2=n2∧m3=n3∧md=nd):=fun⟨a0,a1,a2,a3,a4⟩=>hE (MV.ext' (by rw[HE.out.1,f0,a0]) (by rw[HE.out.2.1,f1,a1]) (by rw[HE.out.2.2.1,f2,a2]) (by rw[HE.out.2.2.2.1,f3,a3]) (BitVec.eq_of_toNat_eq (by rw[HE.out.2.2.2.2,f4,a4])))
        rw[mC,f0,f1,f2,f3,f4] at xR;clear f0 f1 f2 f3 f4 xW hE;clear xI xJ xF HE xG xE xC xA hN xL xX yF xD hW;generalize tx pl=tp at *;generalize whT pl=tw at *
        go_upto_region 16 with (first
         | (go_at_call 143;(with_reducible refine(HR.out _ u3).mono ?_);rintro e w4 ⟨rfl,u4⟩)
         | (go_at_call 144;(with_reducible refine(xM.out _).mono ?_);rintro e w5 ⟨rfl,u5⟩)
         | (go_at_call 244;(with_reducible refine(xQ.out _ (Qa u4 u5)).mono ?_);rintro e w6 ⟨va,vc,rfl,o6,u6⟩))
        have xH:=Qc (fun W hW=>xR.out w6 va vc _ u6 o6 W hW)
        have u:=bdz w6;have ⟨c20,c21,c22,c23,c24⟩:=(K2.out w6 u6).2
        rcases(show ¬m0=n0∨(m0=n0 ∧ ¬m1=n1)∨(m0=n0∧m1=n1 ∧ ¬m2=n2)∨(m0=n0∧m1=n1∧m2=n2 ∧ ¬m3=n3)∨(m0=n0∧m1=n1∧m2=n2∧m3=n3 ∧ ¬md=nd) by omega) with g|⟨rfl,g⟩|⟨rfl,rfl,g⟩|⟨rfl,rfl,rfl,g⟩|⟨rfl,rfl,rfl,rfl,g⟩
        ·have g1:(m0 == n0)=false:=by simp;omega
         clear xO
         go_region_held3 (fun Z=>Z.cell? ⟨bm,0,none⟩=some (.int .i64 m0)∧Z.cell? ⟨bm,1,none⟩=some (.int .u64 m1)∧Z.cell? ⟨bm,2,none⟩=some (.int .u64 m2)∧Z.cell? ⟨bm,3,none⟩=some (.int .u64 m3)∧Z.cell? ⟨bm,4,none⟩=some (.int .u32 md)) (first|assumption|(with_reducible exact(K2.out _ (Qa u6 u)).2)) (first
          | (go_at_call 169;(with_reducible refine(xH.out _ u).mono ?_);rintro e w7 ⟨rfl,u⟩))
         all_goals
          have u7:=Qa u6 u;go_wp2
          go_ret
          exact xB.out _ u7
        ·have g1:((m1:Int) == (n1:Int))=false:=by simp;omega
         have g2:(m1 == n1)=false:=by simpa using g
         have g3:¬(m1:Int)=(n1:Int):=by omega
         clear xO
         go_region_held3 (fun Z=>Z.cell? ⟨bm,0,none⟩=some (.int .i64 m0)∧Z.cell? ⟨bm,1,none⟩=some (.int .u64 m1)∧Z.cell? ⟨bm,2,none⟩=some (.int .u64 m2)∧Z.cell? ⟨bm,3,none⟩=some (.int .u64 m3)∧Z.cell? ⟨bm,4,none⟩=some (.int .u32 md)) (first|assumption|(with_reducible exact(K2.out _ (Qa u6 u)).2)) (first
          | (go_at_call 169;(with_reducible refine(xH.out _ u).mono ?_);rintro e w7 ⟨rfl,u⟩))
         all_goals
          have u7:=Qa u6 u;go_wp2
          go_ret
          exact xB.out _ u7
        ·have g1:((m2:Int) == (n2:Int))=false:=by simp;omega
         have g2:(m2 == n2)=false:=by simpa using g
         have g3:¬(m2:Int)=(n2:Int):=by omega
         clear xO
         go_region_held3 (fun Z=>Z.cell? ⟨bm,0,none⟩=some (.int .i64 m0)∧Z.cell? ⟨bm,1,none⟩=some (.int .u64 m1)∧Z.cell? ⟨bm,2,none⟩=some (.int .u64 m2)∧Z.cell? ⟨bm,3,none⟩=some (.int .u64 m3)∧Z.cell? ⟨bm,4,none⟩=some (.int .u32 md)) (first|assumption|(with_reducible exact(K2.out _ (Qa u6 u)).2)) (first
          | (go_at_call 169;(with_reducible refine(xH.out _ u).mono ?_);rintro e w7 ⟨rfl,u⟩))
         all_goals
          have u7:=Qa u6 u;go_wp2
          go_ret
          exact xB.out _ u7
        ·have g1:((m3:Int) == (n3:Int))=false:=by simp;omega
         have g2:(m3 == n3)=false:=by simpa using g
         have g3:¬(m3:Int)=(n3:Int):=by omega
         clear xO
         go_region_held3 (fun Z=>Z.cell? ⟨bm,0,none⟩=some (.int .i64 m0)∧Z.cell? ⟨bm,1,none⟩=some (.int .u64 m1)∧Z.cell? ⟨bm,2,none⟩=some (.int .u64 m2)∧Z.cell? ⟨bm,3,none⟩=some (.int .u64 m3)∧Z.cell? ⟨bm,4,none⟩=some (.int .u32 md)) (first|assumption|(with_reducible exact(K2.out _ (Qa u6 u)).2)) (first
          | (go_at_call 169;(with_reducible refine(xH.out _ u).mono ?_);rintro e w7 ⟨rfl,u⟩))
         all_goals
          have u7:=Qa u6 u;go_wp2
          go_ret
          exact xB.out _ u7
        ·have g1:((md:Int) == (nd:Int))=false:=by simp;omega
         have g2:(md == nd)=false:=by simpa using g
         have g3:¬(md:Int)=(nd:Int):=by omega
         clear xO
         go_region_held3 (fun Z=>Z.cell? ⟨bm,0,none⟩=some (.int .i64 m0)∧Z.cell? ⟨bm,1,none⟩=some (.int .u64 m1)∧Z.cell? ⟨bm,2,none⟩=some (.int .u64 m2)∧Z.cell? ⟨bm,3,none⟩=some (.int .u64 m3)∧Z.cell? ⟨bm,4,none⟩=some (.int .u32 md)) (first|assumption|(with_reducible exact(K2.out _ (Qa u6 u)).2)) (first
          | (go_at_call 169;(with_reducible refine(xH.out _ u).mono ?_);rintro e w7 ⟨rfl,u⟩))
         all_goals
          have u7:=Qa u6 u;go_wp2
          go_ret
          exact xB.out _ u7
end
end St
end Go.Proofs.YtoblgjledefdbaaGreatDoor
