/- Own work. -/
import Derived.Test.YtoblgjledefdbabGreatDoorQs14
set_option maxRecDepth 100000
set_option maxHeartbeats 4000000
namespace Go.Proofs.YtoblgjledefdbabGreatDoor
open Go.RowKit
attribute [local go_sem ↓] Go.wp_at_zero Go.wp_at_succ
open Go.Proofs.Tryz
namespace St
open Rc
section
variable {q p:Nat} {T:Nat->Prop} {D:DV} {S:SV}
theorem QoY{item:List UInt8}{ds:LB}(h:¬refE S item ds=0):refD S item ds=refE S item ds:=by
 unfold refD;unfold refE at h ⊢
 split
 ·rfl
 ·rename_i h1
  rw[Le h1] at h
  split
  ·rfl
  ·rename_i h2
   rw[Le h2] at h
   split
   ·rfl
   ·rename_i h3
    rw[Le h3] at h
    split
    ·rfl
    ·rename_i h4
     rw[Le h4] at h;exact absurd rfl h
theorem QmW{item:List UInt8}{ds:LB}(h:refE S item ds=0):S.lame=false∧item.length<=1048576∧S.ends.length<65536∧nxt S ds=true∧refD S item ds=if 268435456<lst S.ends+(item.length+8) then 172 else 0:=by
 unfold refD;unfold refE at h
 by_cases h1:S.lame=true
 ·rw[Lo h1] at h;cases h
 ·rw[Le h1] at h ⊢
  by_cases h2:1048576<item.length
  ·rw[Lo h2] at h;cases h
  ·rw[Le h2] at h ⊢
   by_cases h3:65536<=S.ends.length
   ·rw[Lo h3] at h;cases h
   ·rw[Le h3] at h ⊢
    by_cases h4:nxt S ds=false
    ·rw[Lo h4] at h;cases h
    ·rw[Le h4];exact⟨Bool.eq_false_iff.2 h1,by omega,by omega,by simpa using h4,rfl⟩
def Ad1(w wx:World)(bs q:Nat)(v8 v9:Value)(pl:BA)(ss:LB):Prop :=
 ∃bp br va vc n,v8=Zv bp∧v9=Zv br∧Below w.heap.size w wx∧wx.heap[bs]? = some (.cells #[Zv q] 60 (0,0))∧wx.heap[bp]? = some (.cells #[.string pl] 9 (0,0))∧wx.heap[br]? = some (.cells #[.slice va n vc] 22 (0,0))∧w.heap.size<=bp∧w.heap.size<=br∧Qg wx w.heap.size (.slice va n vc) ss
theorem Qc7(p:Nat)(ds:LB)(h:∀d∈ds,d.size<=32):(Rc.Qj (YD p ds)).length<=40*(YD p ds).length:=by
 suffices hh:∀l:LB,(∀x∈l,x.size<=40)->(Rc.Qj l).length<=40*l.length from hh _ fun x hx=>by
  unfold YD at hx;obtain⟨i,d,hd,rfl⟩:=List.mem_mapIdx.1 hx;rw[Ji,Qdn _ _ (by rw[Qe];exact h _ (LN _))]
  omega
 intro l
 induction l with
 | nil=>intro _;simp[Rc.Qj]
 | cons x l ih=>
  intro hl;have h1:=ih fun y hy=>hl y (LR _ hy)
  have h2:=hl x (by simp)
  have h3:Rc.Qj (x::l)=x.data.toList++Rc.Qj l:=by simp[Rc.Qj]
  rw[h3,Lh,LJ,Qe];omega
section
variable {w w4:World} {bs q b8 b9 n vc:Nat} {va:OA} {pl:BA} {ss:LB} {x y:Value}
theorem Qfe(u:Below w.heap.size w w4)(hl:bs<w.heap.size)(hb:Bk w4 bs (Zv q) 60)(a:Bk w4 b8 x 9)(a':Bk w4 b9 y 22)(h8:w.heap.size<=b8)(h9:w.heap.size<=b9)(hne:b8≠b9)
  (p8:∀g,(Value.slice va n vc).ownBlock=some g->g≠b8) (p9:∀g,(Value.slice va n vc).ownBlock=some g->g≠b9) (o:Qg w4 w.heap.size (.slice va n vc) ss):Ad1 w ((w4.setCell ⟨b8,0,none⟩ (.string pl)).setCell ⟨b9,0,none⟩ (.slice va n vc)) bs q (Zv b8) (Zv b9) pl ss :=
 ⟨b8,b9,va,vc,n,rfl,rfl,(u.setCell h8 _).setCell h9 _,(hb.other (by omega) _).other (by omega) _,(a.put _).other hne _,(a'.other hne.symm _).put _,h8,h9,QK o (fun g hg=>(Below.heap_setCell _ _ _ _ (p9 g hg)).trans (Below.heap_setCell _ _ _ _ (p8 g hg)))⟩
theorem QN{w:World}{B B':Nat}{v:Value}{ss:LB}(o:Qg w B v ss)(h:B'<=B):Qg w B' v ss:=World.ownsRow.mono o h
theorem Qpa(w:World)(o o2:Obj):w.heap.size+1<((w.alloc o).alloc o2).heap.size:=by rw[JJ,JJ];omega
theorem QnU{B:Nat}(o:Qg w4 B (.slice va n vc) ss):∀g,(Value.slice va n vc).ownBlock=some g->g≠w4.heap.size:=fun g hg e=>by
 have:=(LX o g hg).2;omega
theorem Qd3(u:Below w.heap.size w w4)(hl:bs<w.heap.size)(hb:Bk w4 bs (Zv q) 60)(a:Bk w4 b8 x 9)(h8:w.heap.size<=b8)
  (p8:∀g,(Value.slice va n vc).ownBlock=some g->g≠b8) (o:Qg w4 w.heap.size (.slice va n vc) ss):Ad1 w (((w4.alloc (.cells #[y] 22)).setCell ⟨b8,0,none⟩ (.string pl)).setCell ⟨w4.heap.size,0,none⟩ (.slice va n vc)) bs q (Zv b8) (Zv w4.heap.size) pl ss :=
 Qfe (bal u _) hl (hb.al _) (a.al _) (UW w4 y _) h8 u.size (by have:=a.lt;omega) p8 (QnU o) (Q4 o _)
theorem Qgn(u:Below w.heap.size w w4)(hl:bs<w.heap.size)(hb:Bk w4 bs (Zv q) 60)(a:Bk w4 b9 x 22)(h9:w.heap.size<=b9)
  (p9:∀g,(Value.slice va n vc).ownBlock=some g->g≠b9) (o:Qg w4 w.heap.size (.slice va n vc) ss):Ad1 w ((w4.alloc (.cells #[.string pl] 9)).setCell ⟨b9,0,none⟩ (.slice va n vc)) bs q (Zv w4.heap.size) (Zv b9) pl ss :=
 ⟨w4.heap.size,b9,va,vc,n,rfl,rfl,(bal u _).setCell h9 _,(hb.al _).other (by omega) _,(UW w4 _ _).other (by have:=a.lt;omega) _,(a.al _).put _,u.size,h9,QK (Q4 o _) (fun g hg=>Below.heap_setCell _ _ _ _ (p9 g hg))⟩
theorem Qll(u:Below w.heap.size w w4)(hb:Bk w4 bs (Zv q) 60)(o:Qg w4 w.heap.size (.slice va n vc) ss):Ad1 w ((w4.alloc (.cells #[.string pl] 9)).alloc (.cells #[.slice va n vc] 22)) bs q (Zv w4.heap.size) (.pointer (some ⟨w4.heap.size+1,0,none⟩)) pl ss :=
 ⟨w4.heap.size,w4.heap.size+1,va,vc,n,rfl,rfl,bal (bal u _) _,(hb.al _).al _,(UW w4 _ _).al _,new2 _ _ _,u.size,by have:=u.size;omega,Q4 (Q4 o _) _⟩
theorem QiC(u:Below w.heap.size w w4)(hb:Bk w4 bs (Zv q) 60)(o:Qg w4 w.heap.size (.slice va n vc) ss):Ad1 w ((w4.alloc (.cells #[.slice va n vc] 22)).alloc (.cells #[.string pl] 9)) bs q (.pointer (some ⟨w4.heap.size+1,0,none⟩)) (Zv w4.heap.size) pl ss :=
 ⟨w4.heap.size+1,w4.heap.size,va,vc,n,rfl,rfl,bal (bal u _) _,(hb.al _).al _,new2 _ _ _,(UW w4 _ _).al _,by have:=u.size;omega,u.size,Q4 (Q4 o _) _⟩
end
theorem Oo(w:World)(h:Sk w q p T D S)(hrm:Rm 7 D)(s:BA)(hs:s.size<=9223372036854775807)(ao:OA)(b off len cap:Nat)(ds:LB)(hr:RdS w ao b off len ds)(hmx:len<=9223372036854775807)(D':DV)(S':SV)(r:Int)(hR:Ur D S s.data.toList ds=(D',S',r)) :
  Calls prog 76 #[Zv q,.string s,.slice ao len cap] w fun e w'=>e= .returned (.int .i64 r)∧SkM w w' q p T D' S':=by
 obtain⟨w1,hw1⟩:∃W,w.alloc (.cells #[Zv q] 60)=W:=⟨_,rfl⟩;have u1:Below w.heap.size w w1:=by rw[<-hw1];exact bal (Lc _ _) _
 obtain⟨bs,hbs⟩:∃b,w.heap.size=b:=⟨_,rfl⟩;have k1:w1.heap[bs]? = some (.cells #[Zv q] 60 (0,0)):=by rw[<-hw1,<-hbs];exact U7 _ _
 have HC:Hid (∀W,Below w1.heap.size w1 W->W.cell? ⟨bs,0,none⟩=some (Zv q)):=fun W hW=>by
  rw[cell_of_row W bs 0 _ _ (0,0) ((hW.block bs (Array.getElem?_eq_some_iff.1 k1).1).trans k1)];rfl
 have HK:Hid (∀W,Below w1.heap.size w1 W->Bk W bs (Zv q) 60):=fun W hW=>(hW.block bs (Array.getElem?_eq_some_iff.1 k1).1).trans k1
 have HLs:Hid (bs<w1.heap.size):=(Array.getElem?_eq_some_iff.1 k1).1
 have c1:=HC.out w1 (Lc _ _);have HW:=Qc hw1;have HB:=Qc hbs;clear hw1 hbs;obtain⟨re,hre⟩:∃r,refE S s.data.toList ds=r:=⟨_,rfl⟩;have HF:=Qc (QeW w1 (h.next u1) s hs ao b off len cap ds (hr.next u1 (Lb _)) hmx re hre)
 by_cases h0:re=0
 ·subst h0;obtain⟨g1,g2,g3,g4,g5⟩:=QmW hre;rw[Qe] at g2 g5;obtain⟨n1,n2⟩:=(Qdp S ds).1 g4;obtain⟨hk1,hk2,hf,_,_,hlow⟩:=h.small;have hmm:=Qdm S.ends.length hf;have h1:=h.next u1;have hr1:=hr.next u1 (Lb _);have hln:=hr.hl;obtain⟨pl,hpl⟩:∃t,tx (pay s.data.toList)=t:=⟨_,rfl⟩;obtain⟨ss,hss⟩:∃t,YD (nn S.ends.length) ds=t:=⟨_,rfl⟩;have HP:Hid (∀W,Below w1.heap.size w1 W->Calls prog 129 #[.string s] W fun e w'=>e= .returned (.string pl)∧Below w1.heap.size w1 w'∧Below W.heap.size W w'):=fun W hW=>(QeN W s hs pl (by rw[payS,Qe,Lo g2];exact hpl)).mono fun e w' z=>⟨z.1,Qa hW z.2,z.2⟩
  have HR:Hid (∀W,Below w1.heap.size w1 W->Calls prog 130 #[Zv q,.slice ao len cap] W fun e w'=> ∃va vc,e= .returned (.slice va len vc)∧Qg w' W.heap.size (.slice va len vc) ss∧Below w1.heap.size w1 w'∧Below W.heap.size W w'):=fun W hW=>
   (Qdo W (h1.next hW) ao b off len cap ds (hr1.next hW (Lb _)) (by omega) (fun d hd=>by rw[n2 d hd];exact hk2)).mono fun e w' z=>by
    obtain⟨v,z1,z2,z3⟩:=z;rw[hss] at z2;obtain⟨va,vc,rfl⟩:=Qs z2;have e5:ss.length=len:=by rw[<-hss,OU];exact hln
    rw[e5] at z1 z2;exact⟨va,vc,z1,z2,Qa hW z3,z3⟩
  go_enter func76,ntmps76
  go_upto_region 1 with (fail)
  rw[HW.out,HB.out]
  go_upto_region 4 with (go_at_call 128;(with_reducible refine HF.out.mono ?_);rintro e w2 ⟨rfl,rfl⟩)
  go_cut [8,9] (fun v8 v9 wx=>Ad1 w2 wx bs q v8 v9 pl ss)
  case first=>
   -- <A
   have u:=bdz w2;clear HF HW HB hR hre g1 g2 g3 g4 g5 n1 n2 hrm hr hr1 h h1;have c1a:=fun o=>HC.out _ (bal (Lc _ w2) o)
   have c1b:=fun o o2=>HC.out _ (bal (bal (Lc _ w2) o) o2)
   go_region_with (first
    | (go_at_call 129;first
     | ((with_reducible refine(HP.out _ u).mono ?_);rintro e w3 ⟨rfl,u,x⟩;have s3:=u.size;have c3:=HC.out _ u;have c3a:=fun o=>HC.out _ (bal u o);have c3b:=fun o o2=>HC.out _ (bal (bal u o) o2);clear x)
     | ((with_reducible refine(HP.out _ (bdw (bal (Lc _ _) _))).mono ?_);rintro e w3 ⟨rfl,u,x⟩;have s3:=u.size;have c3:=HC.out _ u;have c3a:=fun o=>HC.out _ (bal u o);have c3b:=fun o o2=>HC.out _ (bal (bal u o) o2);have a1:=Qlu x;clear x)
     | ((with_reducible refine(HP.out _ (bdw (bal (bal (Lc _ _) _) _))).mono ?_);rintro e w3 ⟨rfl,u,x⟩;have s3:=u.size;have c3:=HC.out _ u;have c3a:=fun o=>HC.out _ (bal u o);have c3b:=fun o o2=>HC.out _ (bal (bal u o) o2);have ⟨a1,a2⟩:=Qlv x;clear x))
    | (go_at_call 130;first
     | ((with_reducible refine(HR.out _ u).mono ?_);rintro e w4 ⟨va,vc,rfl,o4,u,x⟩;have o5:=QN o4 s3;(try (have p3:=apart o4 a1.lt;have a3:=a1.next x;have ⟨b3,f3,g3,k3⟩:=a3.four;have ⟨n3,m3⟩:=a3.ne));(try (have p4:=apart o4 a2.lt;have a4:=a2.next x;have ⟨b4,f4,g4,k4⟩:=a4.four;have ⟨n4,m4⟩:=a4.ne)))
     | ((with_reducible refine(HR.out _ (bal u _)).mono ?_);rintro e w4 ⟨va,vc,rfl,o4,u,x⟩;have o5:=QN o4 (Lt s3 (bal (Lc _ w3) _).size);(try (have p3:=apart o4 (a1.al _).lt;have a3:=(a1.al _).next x;have ⟨n5,m5⟩:=a1.ne;have ⟨b3,f3,g3,k3⟩:=a3.four;have ⟨n3,m3⟩:=a3.ne));have p4:=apart o4 (UW w3 _ _).lt;have a4:=QiH x;have ⟨b4,f4,g4,k4⟩:=a4.four;have ⟨n4,m4⟩:=a4.ne)
     | ((with_reducible refine(HR.out _ (bal (bal u _) _)).mono ?_);rintro e w4 ⟨va,vc,rfl,o4,u,x⟩;have o5:=QN o4 (Lt s3 (bal (bal (Lc _ w3) _) _).size);have ⟨a3,a4⟩:=QiI x;have p3:=apart o4 ((UW w3 _ _).al _).lt;have p4:=apart o4 (Qpa w3 _ _);have ⟨b3,f3,g3,k3⟩:=a3.four;have ⟨n3,m3⟩:=a3.ne;have ⟨b4,f4,g4,k4⟩:=a4.four;have ⟨n4,m4⟩:=a4.ne)))
   all_goals
    have hbk:=HK.out _ u
    go_wp2_with fail
    go_meet
    case rel=>
     first
      | (with_reducible exact Qll u hbk o5)
      | (with_reducible exact QiC u hbk o5)
      | (with_reducible exact Qfe u HLs.out hbk a3 a4 (by omega) (by omega) (by omega) p3 p4 o5)
      | (with_reducible exact Qfe u HLs.out hbk a4 a3 (by omega) (by omega) (by omega) p4 p3 o5)
      | (with_reducible exact Qd3 u HLs.out hbk a3 (by omega) p3 o5)
      | (with_reducible exact Qd3 u HLs.out hbk a4 (by omega) p4 o5)
      | (with_reducible exact Qgn u HLs.out hbk a3 (by omega) p3 o5)
      | (with_reducible exact Qgn u HLs.out hbk a4 (by omega) p4 o5)
   -- A>
  obtain⟨bp,br,va,vc,n,rfl,rfl,uc,kb,kp,kr,lp,lr,oc⟩:=hcut;have hc1:=h1.next uc;have u2c:=Qa u1 uc;have hps:pl.size=s.size+8:=by rw[<-hpl,Ji,pay_len,Qe]
  have hsl:ss.length=len:=by rw[<-hss,OU];exact hln
  have hsz:∀x∈ss,x.size<=9223372036854775807:=fun x hx=>by
   rw[<-hss] at hx;unfold YD at hx;obtain⟨i,d,hd,rfl⟩:=List.mem_mapIdx.1 hx;rw[Ji,Qdn _ _ (by rw[Qe,n2 _ (LN _)];exact hk2)]
   omega
  obtain⟨va',rb,vc',hv,rds,hcap,hnone⟩:=QJ oc hsz;injection hv with e1 e2 e3
  subst e1 e2 e3;rw[hsl] at kr oc rds hcap;have HL:Hid (∀W,Below wc.heap.size wc W->Calls prog 117 #[Zv q,.string ⟨#[105,116,101,109,115]⟩] W fun e w'=>e= .returned (.int .i64 (lst S.ends:Int))∧w'=W):=fun W hW=>Y7 W (hc1.next hW)
  have HC2:Hid (∀W,Below wc.heap.size wc W->W.cell? ⟨bp,0,none⟩=some (.string pl)∧W.cell? ⟨bs,0,none⟩=some (Zv q)):=fun W hW=>⟨((show Bk wc bp _ _ from kp).next hW).both.1,((show Bk wc bs _ _ from kb).next hW).both.1⟩
  have hsub:IntKind.i64.wrap (268435456-(lst S.ends:Int))=268435456-(lst S.ends:Int):=by rw[LE];omega
  obtain⟨ls,hls⟩:∃n,lst S.ends=n:=⟨_,rfl⟩;rw[hls] at hsub HL
  by_cases hroom:268435456<ls+(s.size+8)
  ·have hgt:(268435456:Int)-(ls:Int)<(pl.size:Int):=by omega
   have e1:Ur D S s.data.toList ds=(D,S,172):=by
    unfold Ur;rw[g5,hls,Lo hroom];rfl
   rw[e1] at hR;injection hR with e2 e3
   injection e3 with e3 e4
   subst e2 e3 e4;have HZ:Hid (∀W,Below wc.heap.size wc W->SkM w W q p T D S):=fun W hW=>SkM.of h (Qa u2c hW)
   clear h h1 hr hr1 hc1 HP HR HK HC rds oc kp kb kr e1 hsz
   go_upto_region 5 with (fail)
   have u:=bdz wc;obtain⟨c5,c6⟩:=HC2.out _ (Lc _ _)
   go_region_held3 (fun Z=>Z.cell? ⟨bp,0,none⟩=some (.string pl)∧Z.cell? ⟨bs,0,none⟩=some (Zv q)) (first|assumption|(with_reducible exact HC2.out _ u)) (first
    | (go_at_call 117;(with_reducible refine(HL.out _ u).mono ?_);rintro e w5 ⟨rfl,rfl⟩))
   all_goals
    go_wp2
    go_ret
    exact⟨rfl,HZ.out _ u⟩
  ·have hgt:¬(268435456:Int)-(ls:Int)<(pl.size:Int):=by omega
   obtain⟨m,hm⟩:∃m,addM S s.data.toList ds=m:=⟨_,rfl⟩;have HN:Hid (∀W,Below wc.heap.size wc W->Calls prog 131 #[Zv q,.string pl,.slice va len vc] W fun e w'=>e= .returned (.agg (mC m))∧Below wc.heap.size wc w'):=fun W hW=>
    (QhF W (hc1.next hW) pl (by omega) va rb 0 len vc ss (rds.next hW (Lb _)) (by omega) m (by rw[<-hm,addM,hss,<-hpl,QdT])).mono fun e w' z=>⟨z.1,Qa hW z.2⟩
   have HC3:Hid (∀W,Below wc.heap.size wc W->W.cell? ⟨br,0,none⟩=some (.slice va len vc)):=fun W hW=>((show Bk wc br _ _ from kr).next hW).both.1
   simp only[mC] at HN;obtain⟨m0,e0⟩:∃x,m.k=x:=⟨_,rfl⟩;obtain⟨m1,e1⟩:∃x,m.size=x:=⟨_,rfl⟩;obtain⟨m2,e2⟩:∃x,m.items=x:=⟨_,rfl⟩;obtain⟨m3,e3⟩:∃x,m.nodes=x:=⟨_,rfl⟩;obtain⟨md,e4⟩:∃x,m.chain.toNat=x:=⟨_,rfl⟩;rw[e0,e1,e2,e3,e4] at HN;have HE:=Qc (Lx e0 (Lx e1 (Lx e2 (Lx e3 e4))));clear e0 e1 e2 e3 e4
   go_upto_region 5 with (fail)
   have u:=bdz wc;obtain⟨c5,c6⟩:=HC2.out _ (Lc _ _)
   go_region_held3 (fun Z=>Z.cell? ⟨bp,0,none⟩=some (.string pl)∧Z.cell? ⟨bs,0,none⟩=some (Zv q)) (first|assumption|(with_reducible exact HC2.out _ u)) (first
    | (go_at_call 117;(with_reducible refine(HL.out _ u).mono ?_);rintro e w5 ⟨rfl,rfl⟩))
   all_goals
    have c7:=HC3.out _ u
    go_upto_region 8 with (go_at_call 131;(with_reducible refine(HN.out _ u).mono ?_);rintro e w6 ⟨rfl,u6⟩)
    go_upto_region 9 with (fail)
    obtain⟨bm,hbm⟩:∃b,w6.heap.size=b:=⟨_,rfl⟩;have km:((w6.alloc (.cells #[.int .i64 m0,.int .u64 m1,.int .u64 m2,.int .u64 m3,.int .u32 md] 209)).alloc (.cells #[.func (.func 132) #[] #[Zv bs,Zv bp],.func (.func 134) #[] #[Zv bs,Zv br],.func (.func 136) #[] #[Zv bs],.func (.func 137) #[] #[Zv bs],.func (.func 138) #[] #[Zv bs,Zv w6.heap.size],.func (.func 140) #[] #[Zv bs]] 102)).heap[w6.heap.size]? = some (.cells #[.int .i64 m0,.int .u64 m1,.int .u64 m2,.int .u64 m3,.int .u32 md] 209 (0,0)):=new0 _ _ _;have kl:=new2 w6 (.cells #[.int .i64 m0,.int .u64 m1,.int .u64 m2,.int .u64 m3,.int .u32 md] 209) (.cells #[.func (.func 132) #[] #[Zv bs,Zv bp],.func (.func 134) #[] #[Zv bs,Zv br],.func (.func 136) #[] #[Zv bs],.func (.func 137) #[] #[Zv bs],.func (.func 138) #[] #[Zv bs,Zv w6.heap.size],.func (.func 140) #[] #[Zv bs]] 102);have u8:Below w6.heap.size w6 ((w6.alloc (.cells #[.int .i64 m0,.int .u64 m1,.int .u64 m2,.int .u64 m3,.int .u32 md] 209)).alloc (.cells #[.func (.func 132) #[] #[Zv bs,Zv bp],.func (.func 134) #[] #[Zv bs,Zv br],.func (.func 136) #[] #[Zv bs],.func (.func 137) #[] #[Zv bs],.func (.func 138) #[] #[Zv bs,Zv w6.heap.size],.func (.func 140) #[] #[Zv bs]] 102)):=bal (bal (Lc _ _) _) _;generalize (w6.alloc (.cells #[.int .i64 m0,.int .u64 m1,.int .u64 m2,.int .u64 m3,.int .u32 md] 209)).alloc (.cells #[.func (.func 132) #[] #[Zv bs,Zv bp],.func (.func 134) #[] #[Zv bs,Zv br],.func (.func 136) #[] #[Zv bs],.func (.func 137) #[] #[Zv bs],.func (.func 138) #[] #[Zv bs,Zv w6.heap.size],.func (.func 140) #[] #[Zv bs]] 102)=w8 at *;have ub:Below w.heap.size w w8:=Qa (Qa u2c u6) u8;have ucb:Below wc.heap.size wc w8:=Qa u6 u8;have h8:Sk w8 q p T D S:=h.next ub;rw[hbm] at km kl ⊢;have HU8:=Qc ub;have HTl:Hid (∀x,T x->x<w.heap.size):=fun x hx=>h.lt hx
    have lbs:w.heap.size<=bs:=IF HB.out;have lbc:∀ {b:Nat},w2.heap.size<=b->w.heap.size<=b:=fun {b} e=>Lt u1.size e
    have HBn:Hid (w.heap.size<=bs∧bs<w8.heap.size∧w.heap.size<=br∧br<w8.heap.size∧w.heap.size<=bm∧bm<w8.heap.size) :=
     ⟨lbs,LL (Bk.lt kb) ucb.size,lbc lr,LL (Bk.lt kr) ucb.size,by rw[<-hbm];exact(Qa u2c u6).size,(Array.getElem?_eq_some_iff.1 km).1⟩
    have nT:∀b,w.heap.size<=b -> ¬T b:=fun b e ht=>NB _ (LL (HTl.out b ht) e)
    have HCs:Hid (∀W Dj,SkM w8 W q p T Dj S->W.cell? ⟨bs,0,none⟩=some (Zv q)∧W.cell? ⟨bp,0,none⟩=some (.string pl)∧W.cell? ⟨br,0,none⟩=some (.slice va len vc)∧(W.cell? ⟨bm,0,none⟩=some (.int .i64 m.k)∧W.cell? ⟨bm,1,none⟩=some (.int .u64 m.size)∧W.cell? ⟨bm,2,none⟩=some (.int .u64 m.items)∧W.cell? ⟨bm,3,none⟩=some (.int .u64 m.nodes)∧W.cell? ⟨bm,4,none⟩=some (.int .u32 m.chain.toNat))):=fun W Dj hW=>by
     obtain⟨y0,y1,y2,y3,y4⟩:=Yu km;have nm:=nT bm HBn.out.2.2.2.2.1;rw[HE.out.1,HE.out.2.1,HE.out.2.2.1,HE.out.2.2.2.1,HE.out.2.2.2.2];exact⟨hW.cell (Bk.both (Bk.next kb ucb)).1 (nT bs lbs),hW.cell (Bk.both (Bk.next kp ucb)).1 (nT bp (lbc lp)),hW.cell (Bk.both (Bk.next kr ucb)).1 (nT br (lbc lr)),hW.cell y0 nm,hW.cell y1 nm,hW.cell y2 nm,hW.cell y3 nm,hW.cell y4 nm⟩
    have HCl:Hid (∀W Dj,SkM w8 W q p T Dj S->W.cell? ⟨bm+1,0,none⟩=some (.func (.func 132) #[] #[Zv bs,Zv bp])∧W.cell? ⟨bm+1,1,none⟩=some (.func (.func 134) #[] #[Zv bs,Zv br])∧W.cell? ⟨bm+1,2,none⟩=some (.func (.func 136) #[] #[Zv bs])∧W.cell? ⟨bm+1,3,none⟩=some (.func (.func 137) #[] #[Zv bs])∧W.cell? ⟨bm+1,4,none⟩=some (.func (.func 138) #[] #[Zv bs,Zv bm])∧W.cell? ⟨bm+1,5,none⟩=some (.func (.func 140) #[] #[Zv bs])):=fun W Dj hW=>by
     have nm:=nT (bm+1) (Lt HBn.out.2.2.2.2.1 (Wj _));exact⟨hW.cell (by rw[cell_of_row w8 (bm+1) 0 _ _ (0,0) kl];rfl) nm,hW.cell (by rw[cell_of_row w8 (bm+1) 1 _ _ (0,0) kl];rfl) nm,hW.cell (by rw[cell_of_row w8 (bm+1) 2 _ _ (0,0) kl];rfl) nm,hW.cell (by rw[cell_of_row w8 (bm+1) 3 _ _ (0,0) kl];rfl) nm,hW.cell (by rw[cell_of_row w8 (bm+1) 4 _ _ (0,0) kl];rfl) nm,hW.cell (by rw[cell_of_row w8 (bm+1) 5 _ _ (0,0) kl];rfl) nm⟩
    have HRd:Hid (∀W Dj,SkM w8 W q p T Dj S->RdS W va rb 0 len ss):=fun W Dj hW=>by
     have r8:=rds.next ucb (Lb _);refine⟨r8.hl,r8.ptr,fun j v hv=> ?_,r8.sz⟩
     have hj:j<len:=by have:=(List.getElem?_eq_some_iff.1 hv).1;rw[LI] at this;omega
     have hva:=r8.ptr (by omega)
     exact hW.cell (r8.rng j v hv) (nT rb (lbc (by rw[hva] at oc;exact(LX oc rb rfl).1)))
    have HLen:Hid (len<=vc∧len<=1000∧(Rc.Qj ss).length<=1000000):=⟨hcap,by omega,by
     have:(Rc.Qj ss).length<=40*len:=by
      rw[<-hsl,<-hss];exact Qc7 _ _ (fun d hd=>by rw[n2 d hd];exact hk2)
     omega⟩
    have hnx:m=nxM S.k S.ends S.chain (pay s.data.toList) (YD (nn S.ends.length) ds):=hm.symm;have HMz:Hid (m.size<18446744073709551616∧m.items<18446744073709551616∧m.nodes<18446744073709551616):=by
     rw[hnx];refine⟨show S.ends.length+1<_ by omega,show lst S.ends+(pay s.data.toList).length<_ by rw[pay_len,Qe];omega,show nn (S.ends.length+1)*40<_ by omega⟩
    have HPz:Hid (pl.size<=140737488355328):=by show _<=_;omega
    have hA:addA S s.data.toList ds=six S pl.data.toList (Rc.Qj ss) (mrk m):=by unfold addA;rw[hss,hm,<-hpl,QdT]
    have hdd:refD S s.data.toList ds=0:=by rw[g5,hls,Le hroom]
    have hRR:(if (Q0 (six S pl.data.toList (Rc.Qj ss) (mrk m)) D).2=0 then ((Q0 (six S pl.data.toList (Rc.Qj ss) (mrk m)) D).1,{ S with ends:=S.ends++[m.items],chain:=m.chain },0) else ((Q0 (six S pl.data.toList (Rc.Qj ss) (mrk m)) D).1,{ S with lame:=true },(Q0 (six S pl.data.toList (Rc.Qj ss) (mrk m)) D).2))=(D',S',r):=by
     rw[<-hR];unfold Ur;rw[hdd,hA,hm,Le (show ¬((0:Int)≠0) from fun h=>h rfl)]
    have HFi:Hid (∀D1 r1,(D1,r1)=Q0 (six S pl.data.toList (Rc.Qj ss) (mrk m)) D -> ¬r1=0->D1=D' ∧ { S with lame:=true } = S'∧r1=r):=fun D1 r1 e1 e2=>by
     rw[<-e1,Le e2] at hRR;injection hRR with a1 a2
     injection a2 with a2 a3
     exact⟨a1,a2,a3⟩
    have HFo:Hid (∀D1,(D1,0)=Q0 (six S pl.data.toList (Rc.Qj ss) (mrk m)) D->D1=D' ∧ { S with ends:=S.ends++[m.items],chain:=m.chain } = S'∧0=r):=fun D1 e1=>by
     rw[<-e1,Lo rfl] at hRR;injection hRR with a1 a2
     injection a2 with a2 a3
     exact⟨a1,a2,a3⟩
    have HMi:Hid (m.items<=268435456∧S.ends.length<65536):=⟨by rw[hnx];show lst S.ends+(pay s.data.toList).length<=_;rw[pay_len,Qe];omega,g3⟩
    have HR0:Hid (Rm 7 D):=hrm;have HS0:Hid (SkM w8 w8 q p T D S):=SkM.of h8 (Lc _ _);clear h h1 hr hr1 hc1 HP HR HK HC HC2 HC3 HN HL rds oc kp kb kr hsz km kl u8 ub ucb h8 hnx hA hdd hRR hrm hroom hgt nT lbc lbs hss hpl hps hsl hm u6 u u2c uc c5 c6 c7 hbm hcap hnone lp lr HB HW HF HLs hre hR n1 n2 g1 g2 g3 g4 g5 hmm hsub hls;go_wp2
    go_loopg [46] 6 (fun g x wr=> ∃(j:Nat) (Dj:DV),j<=6∧g=6-j∧x= .int .i64 j∧Hid (SkM w8 wr q p T Dj S)∧Hid (Rm (7-j) Dj)∧Hid (Q0 ((six S pl.data.toList (Rc.Qj ss) (mrk m)).drop j) Dj=Q0 (six S pl.data.toList (Rc.Qj ss) (mrk m)) D))
    case atStart=>go_light;exact⟨0,D,by decide,rfl,rfl,HS0,HR0,rfl⟩
    case round=>
     obtain⟨j,Dj,hj,rfl,rfl,HS,HRj,HI⟩:=hrel;have HI:=HI.out;clear HS0 HR0
     rcases(show j=0∨j=1∨j=2∨j=3∨j=4∨j=5∨j=6 by omega) with rfl|rfl|rfl|rfl|rfl|rfl|rfl
     -- <L
     ·have hrj:Rm 7 Dj:=HRj.out;obtain⟨T1,hk,hT,hu⟩:=HS.out;have nT:∀b,w.heap.size<=b->b<w8.heap.size -> ¬T1 b:=fun b h1 h2 ht=>by
       rcases hT b ht with e|e
       ·have:=HTl.out b e;omega
       ·omega
      obtain⟨D1,r1,hD1⟩:∃D1 r1,wrD Dj nmI (lst S.ends:Int) pl.data.toList=(D1,r1):=⟨_,_,rfl⟩;have HA:Hid (Calls prog 132 #[Zv bs,Zv bp] wr fun e w'=>e= .returned (.int .i64 r1)∧SkM w8 w' q p T D1 S):=(Qiw wr hk hrj.rmy bs bp (HCs.out wr _ HS.out).1 pl (HCs.out wr _ HS.out).2.1 HPz.out D1 r1 hD1).mono fun e w' z=>⟨z.1,Y1 hT hu z.2⟩
      have hr1:Rm 6 D1:=by
       have:Rm 6 (wrD Dj nmI (lst S.ends:Int) pl.data.toList).1:=QkA _ _ _ (hk.sz _) hrj;rw[hD1] at this;exact this
      have hE:Q0 ((six S pl.data.toList (Rc.Qj ss) (mrk m)).drop 0) Dj=if r1=0 then Q0 ((six S pl.data.toList (Rc.Qj ss) (mrk m)).drop 1) D1 else (D1,r1):=by
       show Q0 ((fun D=>wrD D nmI (lst S.ends:Int) pl.data.toList)::((six S pl.data.toList (Rc.Qj ss) (mrk m)).drop 1)) Dj=_
       simp only[Q0,hD1]
      rw[hE] at HI;have cl:=(HCl.out wr _ HS.out).1;have hz:((0:Nat):Int)<6:=by decide
      clear hE nT hT hu hk hrj HRj hD1
      by_cases h0:r1=0
      ·subst h0;rw[Lo rfl] at HI;have HI2:=Qc HI;have HR1:=Qc hr1;clear HI hr1 HS HCs HRd HCl
       go_wp2_with (go_at_call 132;(with_reducible refine HA.out.mono ?_);rintro e w9 ⟨rfl,t9⟩)
       go_roundg 5
       case rel=>go_light;exact⟨1,D1,by decide,rfl,by first|rfl|go_num,t9,HR1,HI2⟩
       case measure=>go_light;decide
      ·rw[Le h0] at HI;have HZ:Hid (∀W,SkM w8 W q p T D1 S->(W.cell? ⟨bs,0,none⟩=some (Zv q)∧W.cell? ⟨q,4,none⟩=some (.bool S.lame)∧W.frozen? ⟨q,4,none⟩=false)∧SkM w (W.setCell ⟨q,4,none⟩ (.bool true)) q p T D' S'∧r1=r):=fun W hW=>by
        obtain⟨⟨l1,l2⟩,l3⟩:=hW.limp;obtain⟨z1,z2,z3⟩:=HFi.out D1 r1 HI h0;exact⟨⟨(HCs.out W _ hW).1,l1,l2⟩,by rw[<-z1,<-z2];exact l3.first HU8.out,z3⟩
       have hr0:(r1 != 0)=true:=by simp[h0]
       clear HI hr1 HS HCs HRd HCl
       go_wp2_with (go_at_call 132;(with_reducible refine HA.out.mono ?_);rintro e w9 ⟨rfl,t9⟩;have ⟨y0,y1,y2⟩:=(HZ.out _ t9).1)
       go_ret
       obtain⟨z2,z3⟩:=(HZ.out _ t9).2;subst z3;exact⟨rfl,z2⟩
     ·have hrj:Rm 6 Dj:=HRj.out;obtain⟨T1,hk,hT,hu⟩:=HS.out;have nT:∀b,w.heap.size<=b->b<w8.heap.size -> ¬T1 b:=fun b h1 h2 ht=>by
       rcases hT b ht with e|e
       ·have:=HTl.out b e;omega
       ·omega
      obtain⟨D1,r1,hD1⟩:∃D1 r1,wrD Dj nmN ((nn S.ends.length*40:Nat):Int) (Rc.Qj ss)=(D1,r1):=⟨_,_,rfl⟩;have HA:Hid (Calls prog 134 #[Zv bs,Zv br] wr fun e w'=>e= .returned (.int .i64 r1)∧SkM w8 w' q p T D1 S):=(Qix wr hk hrj.rmy bs br (HCs.out wr _ HS.out).1 va rb 0 len vc ss (HCs.out wr _ HS.out).2.2.1 (HRd.out wr _ HS.out) HLen.out.1 HLen.out.2.1 HLen.out.2.2 (nT bs HBn.out.1 HBn.out.2.1) (nT br HBn.out.2.2.1 HBn.out.2.2.2.1) D1 r1 hD1).mono fun e w' z=>⟨z.1,Y1 hT hu z.2⟩
      have hr1:Rm 5 D1:=by
       have:Rm 5 (wrD Dj nmN ((nn S.ends.length*40:Nat):Int) (Rc.Qj ss)).1:=QkA _ _ _ (hk.sz _) hrj;rw[hD1] at this;exact this
      have hE:Q0 ((six S pl.data.toList (Rc.Qj ss) (mrk m)).drop 1) Dj=if r1=0 then Q0 ((six S pl.data.toList (Rc.Qj ss) (mrk m)).drop 2) D1 else (D1,r1):=by
       show Q0 ((fun D=>wrD D nmN ((nn S.ends.length*40:Nat):Int) (Rc.Qj ss))::((six S pl.data.toList (Rc.Qj ss) (mrk m)).drop 2)) Dj=_
       simp only[Q0,hD1]
      rw[hE] at HI;have cl:=(HCl.out wr _ HS.out).2.1;have hz:((1:Nat):Int)<6:=by decide
      clear hE nT hT hu hk hrj HRj hD1
      by_cases h0:r1=0
      ·subst h0;rw[Lo rfl] at HI;have HI2:=Qc HI;have HR1:=Qc hr1;clear HI hr1 HS HCs HRd HCl
       go_wp2_with (go_at_call 134;(with_reducible refine HA.out.mono ?_);rintro e w9 ⟨rfl,t9⟩)
       go_roundg 4
       case rel=>go_light;exact⟨2,D1,by decide,rfl,by first|rfl|go_num,t9,HR1,HI2⟩
       case measure=>go_light;decide
      ·rw[Le h0] at HI;have HZ:Hid (∀W,SkM w8 W q p T D1 S->(W.cell? ⟨bs,0,none⟩=some (Zv q)∧W.cell? ⟨q,4,none⟩=some (.bool S.lame)∧W.frozen? ⟨q,4,none⟩=false)∧SkM w (W.setCell ⟨q,4,none⟩ (.bool true)) q p T D' S'∧r1=r):=fun W hW=>by
        obtain⟨⟨l1,l2⟩,l3⟩:=hW.limp;obtain⟨z1,z2,z3⟩:=HFi.out D1 r1 HI h0;exact⟨⟨(HCs.out W _ hW).1,l1,l2⟩,by rw[<-z1,<-z2];exact l3.first HU8.out,z3⟩
       have hr0:(r1 != 0)=true:=by simp[h0]
       clear HI hr1 HS HCs HRd HCl
       go_wp2_with (go_at_call 134;(with_reducible refine HA.out.mono ?_);rintro e w9 ⟨rfl,t9⟩;have ⟨y0,y1,y2⟩:=(HZ.out _ t9).1)
       go_ret
       obtain⟨z2,z3⟩:=(HZ.out _ t9).2;subst z3;exact⟨rfl,z2⟩
     ·have hrj:Rm 5 Dj:=HRj.out;obtain⟨T1,hk,hT,hu⟩:=HS.out;have nT:∀b,w.heap.size<=b->b<w8.heap.size -> ¬T1 b:=fun b h1 h2 ht=>by
       rcases hT b ht with e|e
       ·have:=HTl.out b e;omega
       ·omega
      obtain⟨D1,r1,hD1⟩:∃D1 r1,YE Dj nmI=(D1,r1):=⟨_,_,rfl⟩;have HA:Hid (Calls prog 136 #[Zv bs] wr fun e w'=>e= .returned (.int .i64 r1)∧SkM w8 w' q p T D1 S):=(Qiy wr hk hrj.rmy bs (HCs.out wr _ HS.out).1 D1 r1 hD1).mono fun e w' z=>⟨z.1,Y1 hT hu z.2⟩
      have hr1:Rm 4 D1:=by
       have:Rm 4 (YE Dj nmI).1:=Qf1 _ (hk.sz _) hrj;rw[hD1] at this;exact this
      have hE:Q0 ((six S pl.data.toList (Rc.Qj ss) (mrk m)).drop 2) Dj=if r1=0 then Q0 ((six S pl.data.toList (Rc.Qj ss) (mrk m)).drop 3) D1 else (D1,r1):=by
       show Q0 ((fun D=>YE D nmI)::((six S pl.data.toList (Rc.Qj ss) (mrk m)).drop 3)) Dj=_
       simp only[Q0,hD1]
      rw[hE] at HI;have cl:=(HCl.out wr _ HS.out).2.2.1;have hz:((2:Nat):Int)<6:=by decide
      clear hE nT hT hu hk hrj HRj hD1
      by_cases h0:r1=0
      ·subst h0;rw[Lo rfl] at HI;have HI2:=Qc HI;have HR1:=Qc hr1;clear HI hr1 HS HCs HRd HCl
       go_wp2_with (go_at_call 136;(with_reducible refine HA.out.mono ?_);rintro e w9 ⟨rfl,t9⟩)
       go_roundg 3
       case rel=>go_light;exact⟨3,D1,by decide,rfl,by first|rfl|go_num,t9,HR1,HI2⟩
       case measure=>go_light;decide
      ·rw[Le h0] at HI;have HZ:Hid (∀W,SkM w8 W q p T D1 S->(W.cell? ⟨bs,0,none⟩=some (Zv q)∧W.cell? ⟨q,4,none⟩=some (.bool S.lame)∧W.frozen? ⟨q,4,none⟩=false)∧SkM w (W.setCell ⟨q,4,none⟩ (.bool true)) q p T D' S'∧r1=r):=fun W hW=>by
        obtain⟨⟨l1,l2⟩,l3⟩:=hW.limp;obtain⟨z1,z2,z3⟩:=HFi.out D1 r1 HI h0;exact⟨⟨(HCs.out W _ hW).1,l1,l2⟩,by rw[<-z1,<-z2];exact l3.first HU8.out,z3⟩
       have hr0:(r1 != 0)=true:=by simp[h0]
       clear HI hr1 HS HCs HRd HCl
       go_wp2_with (go_at_call 136;(with_reducible refine HA.out.mono ?_);rintro e w9 ⟨rfl,t9⟩;have ⟨y0,y1,y2⟩:=(HZ.out _ t9).1)
       go_ret
       obtain⟨z2,z3⟩:=(HZ.out _ t9).2;subst z3;exact⟨rfl,z2⟩
     ·have hrj:Rm 4 Dj:=HRj.out;obtain⟨T1,hk,hT,hu⟩:=HS.out;have nT:∀b,w.heap.size<=b->b<w8.heap.size -> ¬T1 b:=fun b h1 h2 ht=>by
       rcases hT b ht with e|e
       ·have:=HTl.out b e;omega
       ·omega
      obtain⟨D1,r1,hD1⟩:∃D1 r1,YE Dj nmN=(D1,r1):=⟨_,_,rfl⟩;have HA:Hid (Calls prog 137 #[Zv bs] wr fun e w'=>e= .returned (.int .i64 r1)∧SkM w8 w' q p T D1 S):=(Qiz wr hk hrj.rmy bs (HCs.out wr _ HS.out).1 D1 r1 hD1).mono fun e w' z=>⟨z.1,Y1 hT hu z.2⟩
      have hr1:Rm 3 D1:=by
       have:Rm 3 (YE Dj nmN).1:=Qf1 _ (hk.sz _) hrj;rw[hD1] at this;exact this
      have hE:Q0 ((six S pl.data.toList (Rc.Qj ss) (mrk m)).drop 3) Dj=if r1=0 then Q0 ((six S pl.data.toList (Rc.Qj ss) (mrk m)).drop 4) D1 else (D1,r1):=by
       show Q0 ((fun D=>YE D nmN)::((six S pl.data.toList (Rc.Qj ss) (mrk m)).drop 4)) Dj=_
       simp only[Q0,hD1]
      rw[hE] at HI;have cl:=(HCl.out wr _ HS.out).2.2.2.1;have hz:((3:Nat):Int)<6:=by decide
      clear hE nT hT hu hk hrj HRj hD1
      by_cases h0:r1=0
      ·subst h0;rw[Lo rfl] at HI;have HI2:=Qc HI;have HR1:=Qc hr1;clear HI hr1 HS HCs HRd HCl
       go_wp2_with (go_at_call 137;(with_reducible refine HA.out.mono ?_);rintro e w9 ⟨rfl,t9⟩)
       go_roundg 2
       case rel=>go_light;exact⟨4,D1,by decide,rfl,by first|rfl|go_num,t9,HR1,HI2⟩
       case measure=>go_light;decide
      ·rw[Le h0] at HI;have HZ:Hid (∀W,SkM w8 W q p T D1 S->(W.cell? ⟨bs,0,none⟩=some (Zv q)∧W.cell? ⟨q,4,none⟩=some (.bool S.lame)∧W.frozen? ⟨q,4,none⟩=false)∧SkM w (W.setCell ⟨q,4,none⟩ (.bool true)) q p T D' S'∧r1=r):=fun W hW=>by
        obtain⟨⟨l1,l2⟩,l3⟩:=hW.limp;obtain⟨z1,z2,z3⟩:=HFi.out D1 r1 HI h0;exact⟨⟨(HCs.out W _ hW).1,l1,l2⟩,by rw[<-z1,<-z2];exact l3.first HU8.out,z3⟩
       have hr0:(r1 != 0)=true:=by simp[h0]
       clear HI hr1 HS HCs HRd HCl
       go_wp2_with (go_at_call 137;(with_reducible refine HA.out.mono ?_);rintro e w9 ⟨rfl,t9⟩;have ⟨y0,y1,y2⟩:=(HZ.out _ t9).1)
       go_ret
       obtain⟨z2,z3⟩:=(HZ.out _ t9).2;subst z3;exact⟨rfl,z2⟩
     ·have hrj:Rm 3 Dj:=HRj.out;obtain⟨T1,hk,hT,hu⟩:=HS.out;have nT:∀b,w.heap.size<=b->b<w8.heap.size -> ¬T1 b:=fun b h1 h2 ht=>by
       rcases hT b ht with e|e
       ·have:=HTl.out b e;omega
       ·omega
      obtain⟨D1,r1,hD1⟩:∃D1 r1,wrD Dj nmM ((S.ends.length*64:Nat):Int) (mrk m)=(D1,r1):=⟨_,_,rfl⟩;have HA:Hid (Calls prog 138 #[Zv bs,Zv bm] wr fun e w'=>e= .returned (.int .i64 r1)∧SkM w8 w' q p T D1 S):=(QiA wr hk hrj.rmy bs bm (HCs.out wr _ HS.out).1 m HMz.out.1 HMz.out.2.1 HMz.out.2.2 (HCs.out wr _ HS.out).2.2.2 (nT bs HBn.out.1 HBn.out.2.1) (nT bm HBn.out.2.2.2.2.1 HBn.out.2.2.2.2.2) D1 r1 hD1).mono fun e w' z=>⟨z.1,Y1 hT hu z.2⟩
      have hr1:Rm 2 D1:=by
       have:Rm 2 (wrD Dj nmM ((S.ends.length*64:Nat):Int) (mrk m)).1:=QkA _ _ _ (hk.sz _) hrj;rw[hD1] at this;exact this
      have hE:Q0 ((six S pl.data.toList (Rc.Qj ss) (mrk m)).drop 4) Dj=if r1=0 then Q0 ((six S pl.data.toList (Rc.Qj ss) (mrk m)).drop 5) D1 else (D1,r1):=by
       show Q0 ((fun D=>wrD D nmM ((S.ends.length*64:Nat):Int) (mrk m))::((six S pl.data.toList (Rc.Qj ss) (mrk m)).drop 5)) Dj=_
       simp only[Q0,hD1]
      rw[hE] at HI;have cl:=(HCl.out wr _ HS.out).2.2.2.2.1;have hz:((4:Nat):Int)<6:=by decide
      clear hE nT hT hu hk hrj HRj hD1
      by_cases h0:r1=0
      ·subst h0;rw[Lo rfl] at HI;have HI2:=Qc HI;have HR1:=Qc hr1;clear HI hr1 HS HCs HRd HCl
       go_wp2_with (go_at_call 138;(with_reducible refine HA.out.mono ?_);rintro e w9 ⟨rfl,t9⟩)
       go_roundg 1
       case rel=>go_light;exact⟨5,D1,by decide,rfl,by first|rfl|go_num,t9,HR1,HI2⟩
       case measure=>go_light;decide
      ·rw[Le h0] at HI;have HZ:Hid (∀W,SkM w8 W q p T D1 S->(W.cell? ⟨bs,0,none⟩=some (Zv q)∧W.cell? ⟨q,4,none⟩=some (.bool S.lame)∧W.frozen? ⟨q,4,none⟩=false)∧SkM w (W.setCell ⟨q,4,none⟩ (.bool true)) q p T D' S'∧r1=r):=fun W hW=>by
        obtain⟨⟨l1,l2⟩,l3⟩:=hW.limp;obtain⟨z1,z2,z3⟩:=HFi.out D1 r1 HI h0;exact⟨⟨(HCs.out W _ hW).1,l1,l2⟩,by rw[<-z1,<-z2];exact l3.first HU8.out,z3⟩
       have hr0:(r1 != 0)=true:=by simp[h0]
       clear HI hr1 HS HCs HRd HCl
       go_wp2_with (go_at_call 138;(with_reducible refine HA.out.mono ?_);rintro e w9 ⟨rfl,t9⟩;have ⟨y0,y1,y2⟩:=(HZ.out _ t9).1)
       go_ret
       obtain⟨z2,z3⟩:=(HZ.out _ t9).2;subst z3;exact⟨rfl,z2⟩
     ·have hrj:Rm 2 Dj:=HRj.out;obtain⟨T1,hk,hT,hu⟩:=HS.out;have nT:∀b,w.heap.size<=b->b<w8.heap.size -> ¬T1 b:=fun b h1 h2 ht=>by
       rcases hT b ht with e|e
       ·have:=HTl.out b e;omega
       ·omega
      obtain⟨D1,r1,hD1⟩:∃D1 r1,YE Dj nmM=(D1,r1):=⟨_,_,rfl⟩;have HA:Hid (Calls prog 140 #[Zv bs] wr fun e w'=>e= .returned (.int .i64 r1)∧SkM w8 w' q p T D1 S):=(QiB wr hk hrj.rmy bs (HCs.out wr _ HS.out).1 D1 r1 hD1).mono fun e w' z=>⟨z.1,Y1 hT hu z.2⟩
      have hr1:Rm 1 D1:=by
       have:Rm 1 (YE Dj nmM).1:=Qf1 _ (hk.sz _) hrj;rw[hD1] at this;exact this
      have hE:Q0 ((six S pl.data.toList (Rc.Qj ss) (mrk m)).drop 5) Dj=if r1=0 then Q0 ((six S pl.data.toList (Rc.Qj ss) (mrk m)).drop 6) D1 else (D1,r1):=by
       show Q0 ((fun D=>YE D nmM)::((six S pl.data.toList (Rc.Qj ss) (mrk m)).drop 6)) Dj=_
       simp only[Q0,hD1]
      rw[hE] at HI;have cl:=(HCl.out wr _ HS.out).2.2.2.2.2;have hz:((5:Nat):Int)<6:=by decide
      clear hE nT hT hu hk hrj HRj hD1
      by_cases h0:r1=0
      ·subst h0;rw[Lo rfl] at HI;have HI2:=Qc HI;have HR1:=Qc hr1;clear HI hr1 HS HCs HRd HCl
       go_wp2_with (go_at_call 140;(with_reducible refine HA.out.mono ?_);rintro e w9 ⟨rfl,t9⟩)
       go_roundg 0
       case rel=>go_light;exact⟨6,D1,by decide,rfl,by first|rfl|go_num,t9,HR1,HI2⟩
       case measure=>go_light;decide
      ·rw[Le h0] at HI;have HZ:Hid (∀W,SkM w8 W q p T D1 S->(W.cell? ⟨bs,0,none⟩=some (Zv q)∧W.cell? ⟨q,4,none⟩=some (.bool S.lame)∧W.frozen? ⟨q,4,none⟩=false)∧SkM w (W.setCell ⟨q,4,none⟩ (.bool true)) q p T D' S'∧r1=r):=fun W hW=>by
        obtain⟨⟨l1,l2⟩,l3⟩:=hW.limp;obtain⟨z1,z2,z3⟩:=HFi.out D1 r1 HI h0;exact⟨⟨(HCs.out W _ hW).1,l1,l2⟩,by rw[<-z1,<-z2];exact l3.first HU8.out,z3⟩
       have hr0:(r1 != 0)=true:=by simp[h0]
       clear HI hr1 HS HCs HRd HCl
       go_wp2_with (go_at_call 140;(with_reducible refine HA.out.mono ?_);rintro e w9 ⟨rfl,t9⟩;have ⟨y0,y1,y2⟩:=(HZ.out _ t9).1)
       go_ret
       obtain⟨z2,z3⟩:=(HZ.out _ t9).2;subst z3;exact⟨rfl,z2⟩
     -- L>
     ·have HTk:=Qc (HFo.out Dj HI);obtain⟨T1,hk,hT,hu⟩:=HS.out;have HA:Hid (Calls prog 141 #[Zv q,.agg #[.int .i64 m.k,.int .u64 m.size,.int .u64 m.items,.int .u64 m.nodes,.int .u32 m.chain.toNat]] wr fun e w'=>e= .returned (.tuple #[])∧SkM w w' q p T D' S'∧0=r):=(UR wr hk m HMi.out.1 HMi.out.2).mono fun e w' z=>⟨z.1,by rw[<-HTk.out.1,<-HTk.out.2.1];exact(Y1 hT hu z.2).first HU8.out,HTk.out.2.2⟩
      obtain⟨y0,_,_,y1,y2,y3,y4,y5⟩:=HCs.out wr _ HS.out;have hz:¬((6:Nat):Int)<6:=by decide
      clear HI hT hu hk HTk HCs HRd HCl HS HRj HFi HFo HMi HMz HPz HLen HBn HTl HU8 HE
      go_wp2_with (go_at_call 141;(with_reducible refine HA.out.mono ?_);rintro e w9 ⟨rfl,t9,t0⟩)
      go_ret
      subst t0;exact⟨rfl,t9⟩
 ·have e1:Ur D S s.data.toList ds=(D,S,re):=by
   unfold Ur;rw[QoY (by rw[hre];exact h0),hre,Lo h0]
  rw[e1] at hR;injection hR with e2 e3
  injection e3 with e3 e4
  subst e2 e3 e4;have HZ:=Qc (SkM.of h u1);clear h hr hre hrm e1 k1
  go_enter func76,ntmps76
  go_upto_region 1 with (fail)
  rw[HW.out,HB.out]
  go_wp2_with (go_at_call 128;(with_reducible refine HF.out.mono ?_);rintro e w2 ⟨rfl,rfl⟩)
  go_ret
  exact⟨rfl,HZ.out⟩
end
def nD(R j:Nat):DV := { U8 R with acts:=j }
theorem QoI(R j:Nat)(s:List UInt8):YE (nD R j) s=(nD R (j+1),0):=rfl
def nmJ(j:Nat):BA:=if j=0 then ⟨#[105,116,101,109,115]⟩ else if j=1 then ⟨#[110,111,100,101,115]⟩ else ⟨#[109,97,114,107,115]⟩
theorem Qj3(j:Nat):(nmJ j).size<=maxLen:=by
 unfold nmJ
 split
 ·decide
 ·split <;> decide
section
variable {q p:Nat} {T:Nat->Prop} {D:DV} {S:SV}
theorem Qnd{W:World}{g:Nat}{U:TypeId}(h:W.heap[g]? = some (.cells #[.string ⟨#[105,116,101,109,115]⟩,.string ⟨#[110,111,100,101,115]⟩,.string ⟨#[109,97,114,107,115]⟩] U (0,0)))(j:Nat)(hj:j<3):W.cell? ⟨g,j,none⟩=some (.string (nmJ j)):=by
 obtain⟨y0,y1,y2⟩:=QP h
 rcases(show j=0∨j=1∨j=2 by omega) with rfl|rfl|rfl
 ·exact y0
 ·exact y1
 ·exact y2
theorem Qmh(W:World)(hW:Sk W q p T D S)(hS:S.ends=[])(j:Nat):Calls prog 117 #[Zv q,.string (nmJ j)] W fun e w'=>e= .returned (.int .i64 0)∧W=w':=by
 unfold nmJ
 split
 ·have:=Y7 W hW;rw[hS] at this;exact this.mono fun e w' z=>⟨z.1,z.2.symm⟩
 ·split
  ·have:=OI W hW;rw[hS] at this;exact this.mono fun e w' z=>⟨z.1,z.2.symm⟩
  ·have:=OH W hW;rw[hS] at this;exact this.mono fun e w' z=>⟨z.1,z.2.symm⟩
theorem JH(w:World)(R:Nat)(h:Sk w q p T (nD R 0) S):Calls prog 70 #[Zv q] w fun e w'=>e= .returned (.int .i64 0)∧w=w':=by
 have HS:Hid (Calls prog 114 #[Zv p,.string ⟨#[109,97,114,107,115]⟩] w fun e w'=>e= .returned (.int .i64 0)∧w=w'):=(h.size ⟨#[109,97,114,107,115]⟩ (by decide)).mono fun e w' z=>⟨z.1,z.2.symm⟩
 obtain⟨_,_,⟨c0,_⟩,_⟩:=h.cells;clear h
 go_enter func70,ntmps70
 go_wp2_with (go_at_call 114;(with_reducible refine HS.out.mono ?_);rintro e w1 ⟨rfl,rfl⟩)
 go_loopg [15] 0 (fun g x wr=>g=0∧x= .int .i64 0∧Hid (w=wr))
 case atStart=>go_light;exact⟨rfl,rfl,rfl⟩
 case round=>
  obtain⟨rfl,rfl,HE⟩:=hrel;go_wp2
  go_ret
  exact⟨rfl,HE.out⟩
theorem Qga(w:World)(R:Nat)(hR:R<=268435456)(h:Sk w q p T (nD R 0) S)(hS:S.ends=[]):Calls prog 71 #[Zv q] w fun e w'=>e= .returned (.int .i64 0)∧SkM w w' q p T (nD R 3) S:=by
 obtain⟨w1,hw1⟩:∃W,w.alloc (.cells #[.string ⟨#[105,116,101,109,115]⟩,.string ⟨#[110,111,100,101,115]⟩,.string ⟨#[109,97,114,107,115]⟩] 9)=W:=⟨_,rfl⟩;have u1:Below w.heap.size w w1:=by rw[<-hw1];exact bal (Lc _ _) _
 obtain⟨bn,hbn⟩:∃b,w.heap.size=b:=⟨_,rfl⟩;have k1:w1.heap[bn]? = some (.cells #[.string ⟨#[105,116,101,109,115]⟩,.string ⟨#[110,111,100,101,115]⟩,.string ⟨#[109,97,114,107,115]⟩] 9 (0,0)):=by rw[<-hw1,<-hbn];exact U7 _ _
 have nT:¬T bn:=fun e=>by have:=h.lt e;omega
 have HW:=Qc hw1;have HB:=Qc hbn;have HC:Hid (∀W i,SkM w1 W q p T (nD R i) S->(∀j,j<3->W.cell? ⟨bn,j,none⟩=some (.string (nmJ j)))∧W.cell? ⟨q,0,none⟩=some (Zv p)):=fun W i hW=>by
  refine⟨fun j hj=>hW.cell (Qnd k1 j hj) nT,?_⟩
  obtain⟨T1,hk,_,_⟩:=hW;obtain⟨_,_,⟨c0,_⟩,_⟩:=hk.cells;exact c0
 have HL:Hid (∀W j i,SkM w1 W q p T (nD R i) S->Calls prog 117 #[Zv q,.string (nmJ j)] W fun e w'=>e= .returned (.int .i64 0)∧W=w'):=fun W j i hW=>by
  obtain⟨T1,hk,_,_⟩:=hW;exact Qmh W hk hS j
 have HZ:Hid (∀W j i,SkM w1 W q p T (nD R i) S->Calls prog 114 #[Zv p,.string (nmJ j)] W fun e w'=>e= .returned (.int .i64 0)∧W=w'):=fun W j i hW=>by
  obtain⟨T1,hk,_,_⟩:=hW;exact(hk.size (nmJ j) (Qj3 j)).mono fun e w' z=>⟨z.1,z.2.symm⟩
 have HY:Hid (∀W j i,i<3->SkM w1 W q p T (nD R i) S->Calls prog 119 #[Zv p,.string (nmJ j)] W fun e w'=>e= .returned (.int .i64 0)∧SkM w1 w' q p T (nD R (i+1)) S):=fun W j i hi hW=>by
  obtain⟨T1,hk,hT,hu⟩:=hW;have:=hk.sync ⟨by show i+1<=_;omega,by show(0:Nat)<_;decide,by show R<=_;omega⟩ (nmJ j) (Qj3 j)
  rw[QoI] at this;exact this.mono fun e w' z=>⟨z.1,Y1 hT hu z.2⟩
 have HS0:Hid (SkM w1 w1 q p T (nD R 0) S):=SkM.of (h.next u1) (Lc _ _);have HU:=Qc u1;clear hw1 hbn u1 h k1 nT hS hR
 go_enter func71,ntmps71
 go_upto_region 2 with (fail)
 try rw[HW.out,HB.out]
 go_wp2
 go_loopg [13] 3 (fun g x wr=> ∃j:Nat,j<=3∧g=3-j∧x= .int .i64 j∧Hid (SkM w1 wr q p T (nD R 0) S))
 case atStart=>go_light;exact⟨0,by decide,rfl,rfl,HS0⟩
 case round=>
  obtain⟨j,hj,rfl,rfl,HS⟩:=hrel;clear HS0
  by_cases hlt:j<3
  ·have hz:(j:Int)<3:=by omega
   obtain⟨cn,c0⟩:=HC.out _ _ HS.out;have cj:=cn j hlt;have HL1:=Qc (HL.out wr j 0 HS.out);have HZ1:=Qc (HZ.out wr j 0 HS.out);have ew:IntKind.i64.wrap ((j:Int)+1)=(j:Int)+1:=by rw[LE];omega
   clear cn HL HZ HY;generalize nmJ j=nj at *
   go_wp2_with (first
    | (go_at_call 114;(with_reducible refine HZ1.out.mono ?_);rintro e w2 ⟨rfl,rfl⟩)
    | (go_at_call 117;(with_reducible refine HL1.out.mono ?_);rintro e w3 ⟨rfl,rfl⟩))
   go_roundg (3-(j+1))
   case rel=>go_light;exact⟨j+1,by omega,rfl,by go_num,HS⟩
   case measure=>go_light;omega
  ·have hz:¬(j:Int)<3:=by omega
   clear HL HZ;generalize wr=wo at *;go_wp2
   go_loopg [42] 3 (fun g x wr=> ∃i:Nat,i<=3∧g=3-i∧x= .int .i64 i∧Hid (SkM w1 wr q p T (nD R i) S))
   case atStart=>go_light;exact⟨0,by decide,rfl,rfl,HS⟩
   case round=>
    clear HS hz hlt hj;obtain⟨i,hi,rfl,rfl,HS⟩:=hrel
    by_cases hlt:i<3
    ·have hz:(i:Int)<3:=by omega
     obtain⟨cn,c0⟩:=HC.out _ _ HS.out;have cj:=cn i hlt;have HY1:=Qc (HY.out wr i i hlt HS.out);have ew:IntKind.i64.wrap ((i:Int)+1)=(i:Int)+1:=by rw[LE];omega
     clear cn HY HS;generalize nmJ i=nj at *
     go_wp2_with (go_at_call 119;(with_reducible refine HY1.out.mono ?_);rintro e w9 ⟨rfl,t9⟩)
     go_roundg (3-(i+1))
     case rel=>go_light;exact⟨i+1,by omega,rfl,by go_num,t9⟩
     case measure=>go_light;omega
    ·have hz:¬(i:Int)<3:=by omega
     obtain rfl:i=3:=by omega
     go_wp2
     go_ret
     exact⟨rfl,SkM.first HU.out HS.out⟩
end
theorem QB(w:World)(k:Int)(k1:1<=k)(k2:k<=32):Calls prog 47 #[.int .i64 k] w fun e w'=>e= .returned (.int .i64 0)∧w=w':=by
 have h1:¬k<1:=by omega
 have h2:¬32<k:=by omega
 clear k1 k2
 go_enter func47,ntmps47;go_wp2
 go_ret
 exact⟨rfl,rfl⟩
theorem Qnt{w w1 W:World}{S0 T:Nat->Prop}(hb:Below w.heap.size w w1)(hu:Upo T w1 W)(hT:∀x,T x->S0 x∨w.heap.size<=x):Upo S0 w W :=
 (Upo.of hb).trans hu (fun x hx ht=>(hT x ht).elim id (fun e=>by omega))
theorem QhI(w:World){p:Nat}{S0:Nat->Prop}(R:Nat)(hR:R<=268435456)(h:Dsk w p S0 (U8 R))(k:Nat)(k1:1<=k)(k2:k<=32) :
  Calls prog 35 #[Zv p,.int .i64 k] w fun e w'=> ∃q T,e= .returned (.tuple #[Zv q,.int .i64 0])∧Sk w' q p T (nD R 3) ⟨k,[],0#32,false⟩∧(∀y,T y->S0 y∨w.heap.size<=y)∧Upo S0 w w':=by
 have HC:=Qc (QB w (k:Int) (by omega) (by omega))
 have HDn:Hid (Calls prog 69 #[Zv p] w fun e w'=>e= .returned (.bool false)∧w=w'):=h.down.mono fun e w' z=>⟨z.1,z.2.symm⟩
 obtain⟨w1,hw1⟩:∃W,w.alloc (.cells #[Zv p,.int .i64 k,.slice none 0 0,.int .u32 0,.bool false] 121)=W:=⟨_,rfl⟩;have u1:Below w.heap.size w w1:=by rw[<-hw1];exact bal (Lc _ _) _
 have e1:w1.heap[w.heap.size]? = some (.cells #[Zv p,.int .i64 k,.slice none 0 0,.int .u32 0,.bool false] 121 (0,0)):=by rw[<-hw1];exact U7 _ _
 have hS:Sk w1 w.heap.size p (fun y=>S0 y∨y=w.heap.size) (nD R 0) ⟨k,[],0#32,false⟩ :=
  ⟨S0,.slice none 0 0,h.next u1,⟨e1,Qkb _ _,k1,k2,by simp,by simp⟩,fun e=>(by have:=h.lt e;omega),fun g hg=>(by cases hg),fun y=>⟨fun e=>e.elim .inl (fun e=> .inr (.inl e)),fun e=>e.elim .inl (fun e=>e.elim .inr (fun e=>by cases e))⟩⟩
 have hT:∀y,(S0 y∨y=w.heap.size)->S0 y∨w.heap.size<=y:=fun y e=>e.imp id (fun e=>by omega)
 have HA:=Qc (JH w1 R hS);have HSt:=Qc (Qga w1 R hR hS rfl);obtain⟨bq,hbq⟩:∃b,w.heap.size=b:=⟨_,rfl⟩;have HW:=Qc hw1;have HB:=Qc hbq;have HT:=Qc hT;have HU:=Qc u1;rw[hbq] at HA HSt;clear h hS hT u1 e1 hw1 hbq k1 k2 hR
 go_enter func35,ntmps35
 go_upto_region 7 with (first
  | (go_at_call 47;(with_reducible refine HC.out.mono ?_);rintro e w2 ⟨rfl,rfl⟩)
  | (go_at_call 69;(with_reducible refine HDn.out.mono ?_);rintro e w2 ⟨rfl,rfl⟩))
 rw[HW.out,HB.out]
 go_wp2_with (first
  | (go_at_call 70;(with_reducible refine HA.out.mono ?_);rintro e w3 ⟨rfl,rfl⟩)
  | (go_at_call 71;(with_reducible refine HSt.out.mono ?_);rintro e w4 ⟨rfl,t4⟩))
 go_ret2
 obtain⟨T4,z1,z2,z3⟩:=t4;exact⟨bq,T4,rfl,z1,fun y hy=>(z2 y hy).elim (fun e=>HT.out y (by rw[HB.out] ;exact e)) (fun e=> .inr (Lt HU.out.size e)),Qnt HU.out z3 (fun y hy=>HT.out y (by rw[HB.out];exact hy))⟩
end St
end Go.Proofs.YtoblgjledefdbabGreatDoor
