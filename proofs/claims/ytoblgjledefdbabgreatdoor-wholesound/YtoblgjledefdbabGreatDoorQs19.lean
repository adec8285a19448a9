/- Own work. -/
import Derived.Test.YtoblgjledefdbabGreatDoorQs17
import Derived.Test.YtoblgjledefdbabGreatDoorQs18
set_option maxRecDepth 100000
set_option maxHeartbeats 2000000
namespace Go.Proofs.YtoblgjledefdbabGreatDoor
open Go.RowKit
attribute [local go_sem ↓] Go.wp_at_zero Go.wp_at_succ
open Go.Proofs.Tryz
section
open Cv (rst cov Ya)
def cV:Option Nat->Value
 | some c=> .tuple #[.int .u64 c,.int .i64 0]
 | none=> .tuple #[.int .u64 0,.int .i64 150]
theorem QlT{size i:Nat}(hn:size<=2^40):Ya size [i]=0↔i<size :=
 ⟨fun h=>by have:=(Cv.Yt h).2.2.1;simpa using this,fun h=>Cv.Qhw ⟨Lm _,h⟩ (by simp) hn⟩
theorem QiV{k:Int}{old size:Nat}{S:List Nat}(hk:1<=k∧k<=32∧size<=2^40):cnt 1 k old size S=if old=0∧S.length=1∧S.getD 0 0<size then some (rst 0 size S).length else none:=by
 rw[cnt,Lo hk,Lo rfl]
 by_cases h1:S.length=1
 ·obtain⟨i,rfl⟩:=List.length_eq_one_iff.1 h1;have:=QlT (i:=i) hk.2.2;simp only[this]
  rfl
 ·rw[Le (by rintro⟨_,h,_⟩;exact h1 h),Le (by rintro⟨_,h,_⟩;exact h1 h)]
theorem Qhz{k:Int}{old size:Nat}{S:List Nat}(hk:1<=k∧k<=32∧size<=2^40):cnt 2 k old size S=if old=0∧Ya size S=0 then some (rst 0 size S).length else none:=by
 rw[cnt,Lo hk,Le (by decide),Lo rfl]
theorem QlK{k:Int}{old size:Nat}{S:List Nat}(hk:1<=k∧k<=32∧size<=2^40):cnt 3 k old size S=if old<=size∧S=[] then some ((cov 0 old).length+(cov old size).length) else none:=by
 rw[cnt,Lo hk,Le (by decide),Le (by decide),Lo rfl]
theorem Qgx{kd k:Int}{old size:Nat}{S:List Nat}(h:¬(1<=k∧k<=32∧size<=2^40)):cnt kd k old size S=none:=by rw[cnt,Le h]
theorem Qae{kd k:Int}{old size:Nat}{S:List Nat}(h1:kd≠1)(h2:kd≠2)(h3:kd≠3):cnt kd k old size S=none:=by
 rw[cnt,Le h1,Le h2,Le h3]
 split <;> rfl
section
variable (w:World) (kd k:Int) (old size:Nat) (sa:OA) (sb so sc:Nat) (S:List Nat) (d:Value)
theorem Ym(hold:old<18446744073709551616)(hsz:size<18446744073709551616)(rs:RdU w sa sb so S.length S)(hm0:size<=2^40->S.length<=17592186044416) :
  Calls prog 101 #[pv6 kd k old size (.slice sa S.length sc) d] w fun e w'=>e= .returned (cV (cnt kd k old size S))∧Below w.heap.size w w':=by
 obtain⟨W,hW,h6,hb,hz⟩:=Us w (.int .i64 kd) (.int .i64 k) (.int .u64 old) (.int .u64 size) (.slice sa S.length sc) d;obtain⟨e0,e1,e2,e3,e4,e5⟩:=h6.cells;have HB:Hid (∀w',Below W.heap.size W w'->Below w.heap.size w w'):=fun w' hb'=>Qa hb hb'
 have HBW:Hid (Below w.heap.size w W):=hb;have rs':=rs.next hb
 by_cases h0:1<=k∧k<=32∧size<=2^40
 ·have hm:=hm0 h0.2.2;clear hm0;have hk1:¬k<1:=by omega
  have hk2:¬32<k:=by omega
  have hk3:¬(1099511627776:Int)<(size:Int):=by omega
  by_cases h1:kd=1
  ·subst h1;rw[QiV h0]
   by_cases hc:old=0∧S.length=1∧S.getD 0 0<size
   ·rw[Lo hc];obtain⟨rfl,hc2,hc3⟩:=hc;have HC:Calls prog 168 #[.agg #[.int .i64 1,.int .i64 k,.int .u64 0,.int .u64 size,.slice sa S.length sc,d]] W fun e w'=>e= .returned (.tuple #[.int .u64 ((rst 0 size S).length:Nat),.int .i64 0])∧Below W.heap.size W w':=QhC W 1 k size sa sb so sc S d h0.2.2 rs' hc2 hc3
    have hz0:((0:Nat):Int)=0:=rfl;rw[hz0] at hW e2;clear hz0;generalize (rst 0 size S).length=cc at *;generalize S.length=m at *;clear rs rs' h6 hb hm h0 hold hsz hc2 hc3
    go_enter func101,ntmps101
    go_wp2_with (go_at_call 168;with_reducible refine HC.mono ?_;rintro x w1 ⟨rfl,hb1⟩)
    go_ret2
    exact⟨rfl,HB.out _ hb1⟩
   ·rw[Le hc];have HC:=Qi0 W 1 k old size sa sb so sc S d rs' hc;generalize S.length=m at *;clear rs rs' h6 hb hm h0 hold hsz hc
    go_enter func101,ntmps101
    go_wp2_with (go_at_call 168;with_reducible refine HC.mono ?_;rintro x w1 ⟨rfl,hb1⟩)
    go_ret2
    exact⟨rfl,HB.out _ hb1⟩
  ·by_cases h2:kd=2
   ·subst h2;rw[Qhz h0]
    by_cases hc:old=0∧Ya size S=0
    ·rw[Lo hc];obtain⟨rfl,hc2⟩:=hc;have HC:Calls prog 169 #[.agg #[.int .i64 2,.int .i64 k,.int .u64 0,.int .u64 size,.slice sa S.length sc,d]] W fun e w'=>e= .returned (.tuple #[.int .u64 ((rst 0 size S).length:Nat),.int .i64 0])∧Below W.heap.size W w':=Qfs W 2 k size sa sb so sc S d rs' hm hc2
     have hz0:((0:Nat):Int)=0:=rfl;rw[hz0] at hW e2;clear hz0;generalize (rst 0 size S).length=cc at *;generalize S.length=m at *;clear rs rs' h6 hb hm h0 hold hsz hc2 h1
     go_enter func101,ntmps101
     go_wp2_with (go_at_call 169;with_reducible refine HC.mono ?_;rintro x w1 ⟨rfl,hb1⟩)
     go_ret2
     exact⟨rfl,HB.out _ hb1⟩
    ·rw[Le hc];have HC:=Qhu W 2 k old size sa sb so sc S d hold rs' hm hc;generalize S.length=m at *;clear rs rs' h6 hb hm h0 hold hsz hc h1
     go_enter func101,ntmps101
     go_wp2_with (go_at_call 169;with_reducible refine HC.mono ?_;rintro x w1 ⟨rfl,hb1⟩)
     go_ret2
     exact⟨rfl,HB.out _ hb1⟩
   ·by_cases h3:kd=3
    ·subst h3;rw[QlK h0]
     by_cases hc:old<=size∧S=[]
     ·rw[Lo hc];obtain⟨hc1,rfl⟩:=hc;have HC:=QiT W 3 k old size sa sc d h0.2.2 hc1;rw[Ip] at *;generalize (cov 0 old).length+(cov old size).length=cc at *;clear rs rs' h6 hb hm h0 hold hsz hc1 h1 h2
      go_enter func101,ntmps101
      go_wp2_with (go_at_call 170;with_reducible refine HC.mono ?_;rintro x w1 ⟨rfl,hb1⟩)
      go_ret2
      exact⟨rfl,HB.out _ hb1⟩
     ·rw[Le hc];have HC:=QlJ W 3 k old size sa sc S d h0.2.2 hm (by rintro⟨a,b⟩;exact hc ⟨a,List.length_eq_zero_iff.1 b⟩)
      generalize S.length=m at *;clear rs rs' h6 hb hm h0 hold hsz hc h1 h2
      go_enter func101,ntmps101
      go_wp2_with (go_at_call 170;with_reducible refine HC.mono ?_;rintro x w1 ⟨rfl,hb1⟩)
      go_ret2
      exact⟨rfl,HB.out _ hb1⟩
    ·rw[Qae h1 h2 h3];generalize S.length=m at *;clear rs rs' h6 hb hm h0 hold hsz
     go_enter func101,ntmps101;go_wp2
     go_ret2
     exact⟨rfl,HBW.out⟩
 ·rw[Qgx h0];clear hm0;generalize S.length=m at *
  by_cases hk1:k<1
  ·clear rs rs' h6 hb h0 hold hsz
   go_enter func101,ntmps101;go_wp2
   go_ret2
   exact⟨rfl,HBW.out⟩
  ·by_cases hk2:32<k
   ·clear rs rs' h6 hb h0 hold hsz
    go_enter func101,ntmps101;go_wp2
    go_ret2
    exact⟨rfl,HBW.out⟩
   ·have hk3:(1099511627776:Int)<(size:Int):=by omega
    clear rs rs' h6 hb h0 hold hsz
    go_enter func101,ntmps101;go_wp2
    go_ret2
    exact⟨rfl,HBW.out⟩
end
end
structure RdPC(w:World)(sa:OA)(sb so sc:Nat)(da:OA)(db dO dc:Nat)(P:PV):Prop where
 rs:RdU w sa sb so P.S.length P.S
 rd:RdS w da db dO P.D.length P.D
 old64:P.old<18446744073709551616
 sz64:P.size<18446744073709551616
 mS:P.S.length<=17592186044416
 mD:P.D.length<=8796093022208
 cD:P.D.length<=dc
theorem RdPC.next{w w':World}{sa:OA}{sb so sc:Nat}{da:OA}{db dO dc:Nat}{P:PV}(h:RdPC w sa sb so sc da db dO dc P)(hb:Below w.heap.size w w'):RdPC w' sa sb so sc da db dO dc P :=
 ⟨h.rs.next hb,h.rd.next hb (Lb _),h.old64,h.sz64,h.mS,h.mD,h.cD⟩
section
variable (w:World) (sa:OA) (sb so sc:Nat) (da:OA) (db dO dc:Nat) (P:PV)
end
section
variable {w W w1:World} {a p:Nat} {U:Nat->Prop} {D D':St.DV} {S S':St.SV} {L L':LB} {g:Int}
theorem Qie(w:World)(ht:Tb w)(h:Lg w 1 a p U D S L)(bl bn:Nat)(cl:w.cell? ⟨bl,0,none⟩=some (Zv a))(n:Nat)(cn:w.cell? ⟨bn,0,none⟩=some (.int .u64 n))(x:Int)(r:BA)(e0:Int)
  (HR:∀W m,Tb W->Frs W m (S.k:Int) L->Calls prog 17 #[.pointer (some ⟨m+1,0,none⟩),.int .u64 n] W fun e w'=>e= .returned (.tuple #[.agg #[.int .u64 x,.string r],.int .i64 e0])∧Below W.heap.size W w') :
  Calls prog 16 #[Zv bl,Zv bn] w fun e w'=>e= .returned (.tuple #[.agg #[.int .u64 x,.string r],.int .i64 e0])∧Below w.heap.size w w':=by
 obtain⟨q,m,r0,vs,hrow,hF,_⟩:=h.row;obtain⟨_,_,c3,_,_,_⟩:=YI hrow;obtain⟨w1,hw1⟩:∃W,w.alloc (.cells #[.int .u64 0,.string ⟨#[]⟩] 33)=W:=⟨_,rfl⟩;have u1:Below w.heap.size w w1:=by rw[<-hw1];exact bal (Lc _ _) _
 have k1:w1.heap[w.heap.size]? = some (.cells #[.int .u64 0,.string ⟨#[]⟩] 33 (0,0)):=by rw[<-hw1];exact Lr w _
 have hz1:=(Array.getElem?_eq_some_iff.1 k1).1
 have ha:=Ll _ _ c3;have hl:=Ll _ _ cl;have hn:=Ll _ _ cn;have HC:Hid (∀W,Below w1.heap.size w1 W->W.cell? ⟨bl,0,none⟩=some (Zv a)∧W.cell? ⟨a,3,none⟩=some (.pointer (some ⟨m+1,0,none⟩))∧W.cell? ⟨bn,0,none⟩=some (.int .u64 n)):=fun W hW=>⟨((Qa u1 hW).cell (p:=⟨bl,0,none⟩) hl).trans cl,((Qa u1 hW).cell (p:=⟨a,3,none⟩) ha).trans c3,((Qa u1 hW).cell (p:=⟨bn,0,none⟩) hn).trans cn⟩
 have HK:Hid (∀W,Below w1.heap.size w1 W->W.heap[w.heap.size]? = some (.cells #[.int .u64 0,.string ⟨#[]⟩] 33 (0,0))):=fun W hW=>(hW.block _ hz1).trans k1
 have HRt:Hid (∀W,Below w1.heap.size w1 W->Calls prog 17 #[.pointer (some ⟨m+1,0,none⟩),.int .u64 n] W fun e w'=>e= .returned (.tuple #[.agg #[.int .u64 x,.string r],.int .i64 e0])∧Below w1.heap.size w1 w'):=fun W hW=>(HR W m (ht.next (Qa u1 hW)) (hF.next (Qa u1 hW) (Lb _))).mono fun e w' z=>⟨z.1,Qa hW z.2⟩
 have HU:=Qc u1;obtain⟨d1,d2,d3⟩:=HC.out w1 (Lc _ _);have u:Below w1.heap.size w1 w1.drew:=(Lc _ _).drew;obtain⟨b0,hb0⟩:∃b,w.heap.size=b:=⟨_,rfl⟩;have HB0:=Qc hb0;have HW1:=Qc hw1;rw[hb0] at HK;clear ht h HR hF hrow c3 cl cn ha hl hn k1 hz1 u1 hw1 hb0
 go_enter func16,ntmps16
 go_upto_region 1 with (fail)
 rw[HW1.out,HB0.out]
 go_region_with (go_at_call 17;(with_reducible refine(HRt.out _ u).mono ?_);rintro e w2 ⟨rfl,u2⟩;have k2:=HK.out _ u2;have e1:w2.cell? ⟨b0,0,none⟩=some (.int .u64 0):=(by rw[cell_of_row w2 _ 0 _ _ (0,0) k2];rfl);have e2:w2.cell? ⟨b0,1,none⟩=some (.string ⟨#[]⟩):=(by rw[cell_of_row w2 _ 1 _ _ (0,0) k2];rfl);have e3:=frozen_of_row w2 b0 0 _ _ k2;have e4:=frozen_of_row w2 b0 1 _ _ k2)
 all_goals
  have HZ:Hid (Below w.heap.size w ((w2.setCell ⟨b0,0,none⟩ (.int .u64 x)).setCell ⟨b0,1,none⟩ (.string r))):=by
   have hb:Below w.heap.size w w2:=Qa HU.out u2;exact(hb.setCell (p:=⟨b0,0,none⟩) (IF HB0.out) _).setCell (p:=⟨b0,1,none⟩) (IF HB0.out) _
  have q:=Ln _ b0 1 _ _ (.string r) (Ln w2 b0 0 _ _ (.int .u64 x) k2);have q0:=cell_of_row _ b0 0 _ _ (0,0) q;have q1:=cell_of_row _ b0 1 _ _ (0,0) q;simp at q0 q1;clear k2 q HK HC HRt d1 d2 d3 u2;go_wp2;generalize (w2.setCell ⟨b0,0,none⟩ (.int .u64 x)).setCell ⟨b0,1,none⟩ (.string r)=W9 at *;exact LA (v := .tuple #[.agg #[.int .u64 x,.string r],.int .i64 e0]) (by simp[results,results16,go_sem,q0,q1]) rfl ⟨rfl,HZ.out⟩
theorem QjN(w:World)(ht:Tb w)(h:Lg w 0 a p U D S L)(n:Nat)(x:Int)(r:BA)(e0:Int)
  (HR:∀W m,Tb W->Frs W m (S.k:Int) L->Calls prog 17 #[.pointer (some ⟨m+1,0,none⟩),.int .u64 n] W fun e w'=>e= .returned (.tuple #[.agg #[.int .u64 x,.string r],.int .i64 e0])∧Below W.heap.size W w') :
  Calls prog 6 #[Zv a,.int .u64 n] w fun e w'=>e= .returned (.tuple #[.agg #[.int .u64 x,.string r],.int .i64 e0])∧Below w.heap.size w w':=by
 obtain⟨w1,hw1⟩:∃W,((w.alloc (.cells #[Zv a] 28)).alloc (.cells #[.int .u64 n] 31)).alloc (.cells #[.int .u64 0,.string ⟨#[]⟩] 33)=W:=⟨_,rfl⟩;have u1:Below w.heap.size w w1:=by rw[<-hw1];exact bal (bal (bal (Lc _ _) _) _) _
 have k0:w1.heap[w.heap.size]? = some (.cells #[Zv a] 28 (0,0)):=by rw[<-hw1,(MapKept.heap_alloc _ _).2 _ (by simp;omega)];exact St.new0 _ _ _
 have k1:w1.heap[w.heap.size+1]? = some (.cells #[.int .u64 n] 31 (0,0)):=by rw[<-hw1,(MapKept.heap_alloc _ _).2 _ (by simp)];exact St.new2 _ _ _
 have k2:w1.heap[w.heap.size+2]? = some (.cells #[.int .u64 0,.string ⟨#[]⟩] 33 (0,0)):=by
  rw[<-hw1];have:=Lr ((w.alloc (.cells #[Zv a] 28)).alloc (.cells #[.int .u64 n] 31)) (.cells #[.int .u64 0,.string ⟨#[]⟩] 33)
  simpa using this
 have hz2:=(Array.getElem?_eq_some_iff.1 k2).1
 have b0:w1.cell? ⟨w.heap.size,0,none⟩=some (Zv a):=by rw[cell_of_row _ _ 0 _ _ (0,0) k0];rfl
 have b1:w1.cell? ⟨w.heap.size+1,0,none⟩=some (.int .u64 n):=by rw[cell_of_row _ _ 0 _ _ (0,0) k1];rfl
 have h1:=h.next u1;obtain⟨q,m,r0,vs,hrow,_⟩:=h1.row;have hax:=h.lt h.own;have HW:Hid (Calls prog 15 #[Zv a,.func (.func 16) #[] #[Zv w.heap.size,.pointer (some ⟨w.heap.size+1,0,none⟩)]] w1 fun e w'=>e= .returned (.tuple #[.agg #[.int .u64 x,.string r],.int .i64 e0])∧Below w1.heap.size w1 w') :=
  Qgj w1 a _ _ hrow _ _ _ fun W hW=>Qie W ((ht.next u1).lkd h1 hW) (h1.lkd hW) w.heap.size (w.heap.size+1) (hW.cell b0 (by omega)) n (hW.cell b1 (by omega)) x r e0 HR
 have HK:Hid (∀W,Below w1.heap.size w1 W->W.heap[w.heap.size+2]? = some (.cells #[.int .u64 0,.string ⟨#[]⟩] 33 (0,0))):=fun W hW=>(hW.block _ hz2).trans k2
 have HU:=Qc u1;clear ht h h1 hrow u1 k0 k1 k2 hz2 b1 hax HR;have HW1:=Qc hw1;clear hw1
 go_enter func6,ntmps6
 go_upto_region 1 with (fail)
 rw[HW1.out]
 go_wp2_with (go_at_call 15;(with_reducible refine HW.out.mono ?_);rintro e w2 ⟨rfl,u2⟩;have k2:=HK.out _ u2;have e1:w2.cell? ⟨w.heap.size+2,0,none⟩=some (.int .u64 0):=(by rw[cell_of_row w2 _ 0 _ _ (0,0) k2];rfl);have e2:w2.cell? ⟨w.heap.size+2,1,none⟩=some (.string ⟨#[]⟩):=(by rw[cell_of_row w2 _ 1 _ _ (0,0) k2];rfl);have e3:=frozen_of_row w2 (w.heap.size+2) 0 _ _ k2;have e4:=frozen_of_row w2 (w.heap.size+2) 1 _ _ k2)
 have HZ:Hid (Below w.heap.size w ((w2.setCell ⟨w.heap.size+2,0,none⟩ (.int .u64 x)).setCell ⟨w.heap.size+2,1,none⟩ (.string r))):=by
  have hb:Below w.heap.size w w2:=Qa HU.out u2;exact(hb.setCell (p:=⟨w.heap.size+2,0,none⟩) (I0 _ _) _).setCell (p:=⟨w.heap.size+2,1,none⟩) (I0 _ _) _
 have q:=Ln _ (w.heap.size+2) 1 _ _ (.string r) (Ln w2 (w.heap.size+2) 0 _ _ (.int .u64 x) k2);have q0:=cell_of_row _ (w.heap.size+2) 0 _ _ (0,0) q;have q1:=cell_of_row _ (w.heap.size+2) 1 _ _ (0,0) q;simp at q0 q1;generalize (w2.setCell ⟨w.heap.size+2,0,none⟩ (.int .u64 x)).setCell ⟨w.heap.size+2,1,none⟩ (.string r)=W9 at *;exact LA (v := .tuple #[.agg #[.int .u64 x,.string r],.int .i64 e0]) (by simp[results,results6,go_sem,q0,q1]) rfl ⟨rfl,HZ.out⟩
theorem Qex(w:World)(ht:Tb w)(h:Lg w 0 a p U D S L)(n:Nat)(hn:n<=L.length)(r:BA)(hq:rtD S.k L n=r) :
  Calls prog 6 #[Zv a,.int .u64 n] w fun e w'=>e= .returned (.tuple #[.agg #[.int .u64 n,.string r],.int .i64 0])∧Below w.heap.size w w' :=
 QjN w ht h n n r 0 fun W m hT hF=>Qjr W hT m S.k L hF n hn r (by
  have:=Ut hF.k1 hF.k2;rw[show clk (S.k:Int)=S.k by omega];exact hq)
end
theorem QbY(x n:Int)(w:World)(hn:0<n)(hn':n<32) :
  Calls prog 63 #[.int .u32 x,.int .i64 n] w fun e w'=>e= .returned (.int .u32 (Ue x n)) ∧ ∃k,w'=w.drewN k:=by
 have e1:IntKind.i64.wrap (32-n)=32-n:=QV _ (by omega) (by omega)
 have b0:(0:Int)<=n:=by omega
 have b1:(0:Int)<=32-n:=by omega
 have hm:min n.toNat 32=n.toNat:=by omega
 have hm2:min (32-n).toNat 32=(32-n).toNat:=by omega
 go_enter func63,ntmps63;go_wp2
 go_region_held3 (fun _=>True) (trivial) (fail)
 go_wp2
 go_ret
 refine⟨?_,1,rfl⟩
 show Ending.returned (Value.int .u32 _)=_
 unfold Ue
 rfl
def horI(blk:List Int)(t:Nat):Nat->Int
 | 0=>0
 | i+1=>IntKind.u32.wrap (IntKind.u32.wrap (horI blk t i*256)+IntKind.u32.wrap (blk.getD (4*t+i) 0))
def O1(blk:List Int):Nat->List Int
 | 0=>[]
 | k+1=>O1 blk k++[horI blk k 4]
theorem QcJ(blk:List Int)(k:Nat):(O1 blk k).length=k:=by
 induction k with
 | zero=>rfl
 | succ k ih=>simp[O1,ih]
def Yk(blk:List Int):Nat->List Int
 | 0=>O1 blk 16
 | k+1=>Yk blk k++[QgY ((Yk blk k).getD k 0) ((Yk blk k).getD (k+1) 0) ((Yk blk k).getD (k+9) 0) ((Yk blk k).getD (k+14) 0)]
theorem QeZ(blk:List Int)(k:Nat):(Yk blk k).length=16+k:=by
 induction k with
 | zero=>exact QcJ _ _
 | succ k ih=>simp only[Yk,List.length_append,ih,List.length_cons,List.length_nil];omega
theorem QhO{w:World}{b i j:Nat}{v u:Value}(h:w.cell? ⟨b,i,none⟩=some u)(hne:i≠j):(w.setCell ⟨b,j,none⟩ v).cell? ⟨b,i,none⟩=some u:=by
 rw[Lz _ _ _ _ (fun e=>hne (by have:=LZ Addr.off e;simpa using this.symm))];exact h
theorem QeM{l:List Int}(h:l.length<64):pad (l++[0])=pad l:=by
 rw[<-QaS h 0]
 apply List.ext_getElem?
 intro i
 by_cases e:i=l.length
 ·subst e;rw[List.getElem?_set_self (by rw[Y8 (by omega)];omega)]
  have:=Q6 l l.length;rw[La,Ld (by rw[Y8 (by omega)];omega),La,NU (l:=l) (by omega)] at this
  rw[Ld (by rw[Y8 (by omega)];omega)]
  simpa using this.symm
 ·rw[IB (fun h=>e h.symm)]
theorem Ql8(b:BA)(m:Nat)(hm:m<b.size)(w:World):(Instr.index 9 (.string b) (.int .i64 m)).run prog w= .ok (.int .u8 ((tB b).getD m 0)) w:=by
 have e:(tB b).getD m 0=(b[m].toNat:Int):=by
  have:b.data.toList[m]? = some b[m]:=by
   rw[NM,Nq (by simpa using hm)];rfl
  simp[tB,List.getD_eq_getElem?_getD,this]
 have h2:b[m]? = some b[m]:=getElem?_pos b m hm
 rw[e];simp[Instr.index,asIntOf,run_underlying underlying9,h2]
structure Pl(w wr:World)(ws:List Int):Prop where
 below:Below w.heap.size w wr
 res:wr.there w.heap.size 0 64
 ws:wr.rangeAt (w.heap.size+1) 0 (cW (pad ws))
 wst:wr.there (w.heap.size+1) 0 64
theorem Pl.set{w wr:World}{ws:List Int}{y:Int}(h:Pl w wr (ws++[y])){m:Nat}(hm:ws.length=m)(hl:m<64)(v:Int):Pl w (wr.setCell ⟨w.heap.size+1,m,none⟩ (.int .u32 v)) (ws++[v]):=by
 subst hm;refine⟨h.below.setCell (by show w.heap.size<=w.heap.size+1;omega) _,QL h.res _ _,?_,QL h.wst _ _⟩
 have:=YC h.ws ws.length (.int .u32 v);rw[Lp,Qfn,<-QaS hl y,List.set_set,QaS hl] at this;exact this
theorem Pl.step{w wr:World}{ws:List Int}(h:Pl w wr ws){m:Nat}(hm:ws.length=m)(hl:m<64)(v:Int):Pl w (wr.setCell ⟨w.heap.size+1,m,none⟩ (.int .u32 v)) (ws++[v]) :=
 Pl.set (y:=0) ⟨h.below,h.res,by rw[QeM (by omega)];exact h.ws,h.wst⟩ hm hl v
theorem Pl.same{w X Y:World}{ws:List Int}(h:Pl w X ws)(e1:Y.heap=X.heap)(e2:Y.os=X.os)(e3:Y.tape=X.tape)(e4:Y.output=X.output):Pl w Y ws:=by
 have hc:∀a,Y.cell? a=X.cell? a:=fun a=>Lq (w:=X) (by rw[e1])
 have hf:∀a,Y.frozen? a=X.frozen? a:=fun a=>N7 (w:=X) (by rw[e1])
 exact⟨⟨e2.trans h.below.os,e3.trans h.below.tape,e4.trans h.below.output,by rw[e1];exact h.below.size,fun k hk=>by rw[e1];exact h.below.block k hk⟩,
  fun j hj=>by rw[hc,hf];exact h.res j hj,fun j v hv=>by rw[hc];exact h.ws j v hv,fun j hj=>by rw[hc,hf];exact h.wst j hj⟩
theorem Pl.start(w:World)(z1 z2:Array Value)(t1 t2:TypeId)(h1:z1.size=64)(h2:z2=(cW (pad [])).toArray):Pl w ((w.alloc (.cells z1 t1)).alloc (.cells z2 t2)) []:=by
 subst h2;have q1:=Qm w z1 t1 64 (by omega)
 have r2:=Qq (w.alloc (.cells z1 t1)) (cW (pad [])) t2;have q2:=Qm (w.alloc (.cells z1 t1)) (cW (pad [])).toArray t2 64 (by simp[Ql,pad])
 simp only[World.size_alloc] at r2 q2;exact⟨((Lc _ _).alloc (Lb _) _).alloc (by simp) _,World.there_alloc q1 _,r2,q2⟩
theorem Qkr(b:BA)(hb:b.size=64)(w:World) :
  Calls prog 62 #[.string b] w fun e w'=>e= .returned (.agg (cW (Yk (tB b) 48)).toArray)∧Below w.heap.size w w':=by
 go_enter func62,ntmps62;go_wp2
 go_loopg [4] 16 (fun g i wr=> ∃k:Nat,k<=16∧g=16-k∧i= .int .i64 k∧Pl w wr (O1 (tB b) k))
 case atStart=>go_light;exact⟨0,Lm _,rfl,rfl,Pl.start w _ _ _ _ rfl rfl⟩
 case round=>
  obtain⟨k,hk,rfl,rfl,hs⟩:=hrel
  by_cases hlt:k<16
  ·have hk0:(0:Int)<=(k:Int):=Lf _;have hk8:(k:Int)<16:=by omega
   have dk:(k:Int)<64:=by omega
   have hlen:=QcJ (tB b) k;go_wp2
   go_loopg [5] 4 (fun g i wi=> ∃j:Nat,j<=4∧g=4-j∧i= .int .i64 j∧Pl w wi (O1 (tB b) k++[horI (tB b) k j]))
   case atStart=>
    go_light;refine⟨0,Lm _,rfl,rfl,?_⟩
    exact⟨hs.below,hs.res,by rw[show horI (tB b) k 0=0 from rfl,QeM (by omega)];exact hs.ws,hs.wst⟩
   case round=>
    clear hs;obtain⟨j,hj,rfl,rfl,hs⟩:=hrel
    by_cases hjl:j<4
    ·have hj0:(0:Int)<=(j:Int):=Lf _;have hj4:(j:Int)<4:=by omega
     obtain⟨m,hm⟩:∃m:Nat,4*k+j=m:=⟨_,rfl⟩;obtain⟨m4,hm4⟩:∃m4:Nat,4*k=m4:=⟨_,rfl⟩;have e0:IntKind.i64.wrap (4*(k:Int))=(m4:Int):=by rw[QV _ (by omega) (by omega)];omega
     have e1:IntKind.i64.wrap ((m4:Int)+(j:Int))=(m:Int):=by rw[QV _ (by omega) (by omega)];omega
     have hidx:=fun w'=>Ql8 b m (by omega) w'
     have c0:wr.cell? ⟨w.heap.size+1,k,none⟩=some (.int .u32 (horI (tB b) k j)):=by
      have:=Qd hs.ws (i:=k) (by rw[Y8 (by simp[hlen];omega)];omega)
      rw[Q6,La,LW (by omega),hlen,NK] at this
      exact this
     have f0:wr.frozen? ⟨w.heap.size+1,k,none⟩=false:=by have:=(hs.wst k (by omega)).2;rwa [Lp] at this
     have HF:Hid (∀v,Pl w (wr.setCell ⟨w.heap.size+1,k,none⟩ (.int .u32 v)) (O1 (tB b) k++[v])):=fun v=>hs.set hlen (by omega) v
     have HV:Hid (horI (tB b) k (j+1)=IntKind.u32.wrap (IntKind.u32.wrap (horI (tB b) k j*256)+IntKind.u32.wrap ((tB b).getD m 0))):=by
      show _=_
      rw[horI,hm]
     clear hs hm hm4;generalize horI (tB b) k j=x at *;generalize (tB b).getD m 0=y at *;go_wp2
     go_region
     all_goals
      go_wp2
      go_roundg (4-(j+1))
      case rel=>
       go_light;refine⟨j+1,by omega,rfl,by go_num,?_⟩
       have e:IntKind.u32.wrap (IntKind.u32.wrap (x*256)+IntKind.u32.wrap y)=(x*256+y)%4294967296:=by simp only[IntKind.wrap_u32'];omega
       rw[HV.out,e];exact(HF.out _).same rfl rfl rfl rfl
      case measure=>go_light;omega
    ·obtain rfl:j=4:=by omega
     go_wp2
     go_roundg (16-(k+1))
     case rel=>go_light;exact⟨k+1,by omega,rfl,by go_num,hs⟩
     case measure=>go_light;omega
  ·obtain rfl:k=16:=by omega
   clear hk hlt;go_wp2
   go_loopg [6] 48 (fun g i wr=> ∃k:Nat,k<=48∧g=48-k∧i= .int .i64 ((16+k:Nat):Int)∧Pl w wr (Yk (tB b) k))
   case atStart=>go_light;exact⟨0,Lm _,rfl,rfl,hs⟩
   case round=>
    clear hs;obtain⟨k,hk,rfl,rfl,hs⟩:=hrel
    by_cases hlt:k<48
    ·obtain⟨t,ht⟩:∃t:Nat,16+k=t:=⟨_,rfl⟩;obtain⟨k1,hk1⟩:∃k1:Nat,k+1=k1:=⟨_,rfl⟩;obtain⟨k9,hk9⟩:∃k9:Nat,k+9=k9:=⟨_,rfl⟩;obtain⟨k14,hk14⟩:∃k14:Nat,k+14=k14:=⟨_,rfl⟩;rw[ht];have e0:IntKind.i64.wrap ((t:Int)-16)=(k:Int):=by rw[QV _ (by omega) (by omega)];omega
     have e2:IntKind.i64.wrap ((t:Int)-7)=(k9:Int):=by rw[QV _ (by omega) (by omega)];omega
     have e1:(t:Int)-15=(k1:Int):=by omega
     have e3:(t:Int)-2=(k14:Int):=by omega
     have b0:(0:Int)<=(k:Int):=Lf _;have b1:(0:Int)<=(k1:Int):=Lf _;have b2:(0:Int)<=(k9:Int):=Lf _;have b3:(0:Int)<=(k14:Int):=Lf _;have bt:(0:Int)<=(t:Int):=Lf _;have d0:(k:Int)<64:=by omega
     have d1:(k1:Int)<64:=by omega
     have d2:(k9:Int)<64:=by omega
     have d3:(k14:Int)<64:=by omega
     have dt:(t:Int)<64:=by omega
     have hlen:=QeZ (tB b) k;have hpl:(pad (Yk (tB b) k)).length=64:=Y8 (by omega)
     have c0:wr.cell? ⟨w.heap.size+1,k,none⟩=some (.int .u32 ((Yk (tB b) k).getD k 0)):=by rw[<-Q6];exact Qd hs.ws (by omega)
     have c1:wr.cell? ⟨w.heap.size+1,k1,none⟩=some (.int .u32 ((Yk (tB b) k).getD k1 0)):=by rw[<-Q6];exact Qd hs.ws (by omega)
     have c2:wr.cell? ⟨w.heap.size+1,k9,none⟩=some (.int .u32 ((Yk (tB b) k).getD k9 0)):=by rw[<-Q6];exact Qd hs.ws (by omega)
     have c3:wr.cell? ⟨w.heap.size+1,k14,none⟩=some (.int .u32 ((Yk (tB b) k).getD k14 0)):=by rw[<-Q6];exact Qd hs.ws (by omega)
     have st:wr.cell? ⟨w.heap.size+1,t,none⟩=some (.int .u32 ((Yk (tB b) k).getD t 0)):=by rw[<-Q6];exact Qd hs.ws (by omega)
     have sf:wr.frozen? ⟨w.heap.size+1,t,none⟩=false:=by have:=(hs.wst t (by omega)).2;rwa [Lp] at this
     have HF:Hid (∀v,Pl w (wr.setCell ⟨w.heap.size+1,t,none⟩ (.int .u32 v)) (Yk (tB b) k++[v])):=fun v=>hs.step (by omega) (by omega) v
     have HV:Hid (Yk (tB b) (k+1)=Yk (tB b) k++[QgY ((Yk (tB b) k).getD k 0) ((Yk (tB b) k).getD k1 0) ((Yk (tB b) k).getD k9 0) ((Yk (tB b) k).getD k14 0)]):=by
      show _=_
      subst hk1 hk9 hk14;rfl
     have HT:Hid (16+k=t):=ht;have N0:k≠t:=by omega
     have N2:k9≠t:=by omega
     clear hs ht hk1 hk9 hk14 hlen hpl hb;generalize (Yk (tB b) k).getD k 0=x0 at *;generalize (Yk (tB b) k).getD k1 0=x1 at *;generalize (Yk (tB b) k).getD k9 0=x2 at *;generalize (Yk (tB b) k).getD k14 0=x3 at *;generalize (Yk (tB b) k).getD t 0=z at *;go_wp2
     go_region_held3 (fun w'=>w'.cell? ⟨w.heap.size+1,k,none⟩=some (.int .u32 x0)∧w'.cell? ⟨w.heap.size+1,k9,none⟩=some (.int .u32 x2)) (first|assumption|(refine⟨?_,?_⟩ <;> first|assumption|(refine QhO ?_ ?_ <;> assumption))) (first|(go_at_call 63;refine(QbY _ _ _ (by decide) (by decide)).mono ?_;rintro e w' ⟨rfl,q,rfl⟩))
     go_wp2
     go_roundg (48-(k+1))
     case rel=>
      go_light;refine⟨k+1,by omega,rfl,?_,?_⟩
      ·have:=HT.out;go_num
      rw[HV.out];exact(HF.out _).same rfl rfl rfl rfl
     case measure=>go_light;omega
    ·obtain rfl:k=48:=by omega
     have hlen:=QeZ (tB b) 48;have hws:=hs.ws;rw[QeL hlen] at hws;have hbel:=hs.below;have hi:(prog.info? 141).map (·.size)=some (cW (Yk (tB b) 48)).length:=by rw[Ql,hlen];exact QdO
     have hi2:(prog.info? 141).map (·.size)=some (cW (Yk (tB b) 48)).toArray.size:=by simpa using hi
     have hre2:wr.there w.heap.size 0 (cW (Yk (tB b) 48)).toArray.size:=by
      have hsz:(cW (Yk (tB b) 48)).toArray.size=64:=by simp[Ql,hlen]
      rw[hsz];exact hs.res
     clear hs hk hlt hlen hb;generalize hE:Yk (tB b) 48=ws at *;have HE:Hid (Yk (tB b) 48=ws):=hE;clear hE
     go_wp2_with (first|(refine wpList_load_mid rfl 141 _ rfl (w.heap.size+1) 0 rfl (cW ws) _ hws underlying141 rfl hi ?_)|(refine wpList_store_mid rfl 141 _ _ rfl w.heap.size 0 (cW ws).toArray rfl rfl hre2 hi2 (all_oneCell_toArray (Ua ws)) ?_))
     refine LA (v := .agg (cW ws).toArray) ?_ rfl ⟨by rw[HE.out],?_⟩
     ·refine QZ results62 _ _ w.heap.size 0 (cW ws) (.array 64 55) ?_ ?_ underlying141 rfl hi
      ·rfl
      ·go_light
       simpa using World.rangeAt_setCells_same _ _ _ _ (by simpa using hre2)
     ·go_light;exact Qo hbel (Lb _) _ _
theorem Qnw(a b c d:Int)(ha:0<=a∧a<256)(hb:0<=b∧b<256)(hc:0<=c∧c<256)(hd:0<=d∧d<256) :
  Qfa a b c d=a*16777216+b*65536+c*256+d:=by
 obtain⟨a,rfl⟩:=NX ha.1;obtain⟨b,rfl⟩:=NX hb.1;obtain⟨c,rfl⟩:=NX hc.1;obtain⟨d,rfl⟩:=NX hd.1;have h1:a<256:=by omega
 have h2:b<256:=by omega
 have h3:c<256:=by omega
 have h4:d<256:=by omega
 have e1:IntKind.u32.wrap (IntKind.u32.wrap (a:Int)*16777216)=((a*16777216:Nat):Int):=by simp only[IntKind.wrap_u32'];omega
 have e2:IntKind.u32.wrap (IntKind.u32.wrap (b:Int)*65536)=((b*65536:Nat):Int):=by simp only[IntKind.wrap_u32'];omega
 have e3:IntKind.u32.wrap (IntKind.u32.wrap (c:Int)*256)=((c*256:Nat):Int):=by simp only[IntKind.wrap_u32'];omega
 have e4:IntKind.u32.wrap (d:Int)=((d:Nat):Int):=by simp only[IntKind.wrap_u32'];omega
 have j1:a*16777216 ||| b*65536=a*16777216+b*65536:=nat_join 24 _ _ (by omega) (by omega)
 have j2:(a*16777216+b*65536) ||| c*256=a*16777216+b*65536+c*256:=nat_join 16 _ _ (by omega) (by omega)
 have j3:(a*16777216+b*65536+c*256) ||| d=a*16777216+b*65536+c*256+d:=nat_join 8 _ _ (by omega) (by omega)
 unfold Qfa;rw[e1,e2,e3,e4,u32_or_nat _ _ (by omega) (by omega),j1,u32_or_nat _ _ (by omega) (by omega),j2,u32_or_nat _ _ (by omega) (by omega),j3]
 omega
def Bytes(l:List Int):Prop := ∀x∈l,0<=x∧x<256
theorem Bytes.getD{l:List Int}(h:Bytes l)(i:Nat):0<=l.getD i 0∧l.getD i 0<256:=by
 rw[La]
 cases e:l[i]? with
 | none=>exact⟨by decide,by decide⟩
 | some x=>exact h x (Nk e)
theorem Qot{blk:List Int}(h:Bytes blk)(k:Nat):horI blk k 4=Qfa (blk.getD (4*k) 0) (blk.getD (4*k+1) 0) (blk.getD (4*k+2) 0) (blk.getD (4*k+3) 0):=by
 have h0:=h.getD (4*k);have h1:=h.getD (4*k+1);have h2:=h.getD (4*k+2);have h3:=h.getD (4*k+3);rw[Qnw _ _ _ _ h0 h1 h2 h3];simp only[horI,IntKind.wrap_u32',Nat.add_zero];omega
theorem Qm3{blk:List Int}(h:Bytes blk)(k:Nat):Yk blk k=Q1 blk k:=by
 have h0:∀k,O1 blk k=sch0 blk k:=fun k=>by
  induction k with
  | zero=>rfl
  | succ k ih=>rw[O1,sch0,ih,Qot h]
 induction k with
 | zero=>exact h0 16
 | succ k ih=>rw[Yk,Q1,ih]
theorem QkS(s:BA):Bytes (tB s):=by
 intro x hx;obtain⟨y,_,rfl⟩:=List.mem_map.1 hx;have:=y.toNat_lt;omega
def l8(v:S8):List Int:=[v.a,v.b,v.c,v.d,v.e,v.f,v.g,v.h]
def addL(s v:S8):Nat->List Int
 | 0=>l8 v
 | k+1=>(addL s v k).set k (IntKind.u32.wrap ((l8 v).getD k 0+(l8 s).getD k 0))
theorem Qhj(s v:S8)(k j:Nat)(h:k<=j):(addL s v k).getD j 0=(l8 v).getD j 0:=by
 induction k with
 | zero=>rfl
 | succ k ih=>rw[addL,La,IB (by omega),<-La,ih (by omega)]
theorem QiE(s v:S8):addL s v 8=sumI s v:=by
 have:addL s v 8=[IntKind.u32.wrap (v.a+s.a),IntKind.u32.wrap (v.b+s.b),IntKind.u32.wrap (v.c+s.c),IntKind.u32.wrap (v.d+s.d),IntKind.u32.wrap (v.e+s.e),IntKind.u32.wrap (v.f+s.f),IntKind.u32.wrap (v.g+s.g),IntKind.u32.wrap (v.h+s.h)]:=rfl;rw[this,sumI];simp only[Int.add_comm]
theorem QpN(a b c e f g h r x:Int):IntKind.u32.wrap (oneI e f g h r x+twoI a b c) =
  (h+bits .xor .u32 (bits .xor .u32 (Ue e 6) (Ue e 11)) (Ue e 25)+bits .xor .u32 (bits .and .u32 e f) (bits .and .u32 (bits .xor .u32 IntKind.u32.max e) g)+r+x+(bits .xor .u32 (bits .xor .u32 (Ue a 2) (Ue a 13)) (Ue a 22)+bits .xor .u32 (bits .xor .u32 (bits .and .u32 a b) (bits .and .u32 a c)) (bits .and .u32 b c)))%4294967296:=by
 simp only[oneI,twoI,IntKind.wrap_u32'];omega
theorem QpO(d e f g h r x:Int):IntKind.u32.wrap (d+oneI e f g h r x) =
  (d+(h+bits .xor .u32 (bits .xor .u32 (Ue e 6) (Ue e 11)) (Ue e 25)+bits .xor .u32 (bits .and .u32 e f) (bits .and .u32 (bits .xor .u32 IntKind.u32.max e) g)+r+x))%4294967296:=by
 simp only[oneI,IntKind.wrap_u32'];omega
structure Mx(w wr:World)(st ws rs vl:List Int)(N V:Nat):Prop where
 vlen:vl.length=8
 below:Below w.heap.size w wr
 st:wr.rangeAt w.heap.size 0 (cW st)
 res:wr.there (w.heap.size+1) 0 8
 ws:wr.rangeAt N 0 (cW ws)
 rs:wr.rangeAt 1 0 (cW rs)
 v:wr.rangeAt V 0 (cW vl)
 vt:wr.there V 0 8
 hN:w.heap.size+2<=N
 hV:N<V
 h2:1<w.heap.size
theorem Mx.same{w X Y:World}{st ws rs vl:List Int}{N V:Nat}(h:Mx w X st ws rs vl N V)(e1:Y.heap=X.heap)(e2:Y.os=X.os)(e3:Y.tape=X.tape)(e4:Y.output=X.output):Mx w Y st ws rs vl N V:=by
 have hc:∀a,Y.cell? a=X.cell? a:=fun a=>Lq (w:=X) (by rw[e1])
 have hf:∀a,Y.frozen? a=X.frozen? a:=fun a=>N7 (w:=X) (by rw[e1])
 exact⟨h.vlen,⟨e2.trans h.below.os,e3.trans h.below.tape,e4.trans h.below.output,by rw[e1];exact h.below.size,fun k hk=>by rw[e1];exact h.below.block k hk⟩,
  fun j v hv=>by rw[hc];exact h.st j v hv,fun j hj=>by rw[hc,hf];exact h.res j hj,fun j v hv=>by rw[hc];exact h.ws j v hv,fun j v hv=>by rw[hc];exact h.rs j v hv,fun j v hv=>by rw[hc];exact h.v j v hv,fun j hj=>by rw[hc,hf];exact h.vt j hj,h.hN,h.hV,h.h2⟩
theorem Mx.set{w wr:World}{st ws rs vl:List Int}{N V:Nat}(h:Mx w wr st ws rs vl N V)(i:Nat)(x:Int):Mx w (wr.setCell ⟨V,i,none⟩ (.int .u32 x)) st ws rs (vl.set i x) N V:=by
 have hN:=h.hN;have hV:=h.hV;have h2:=h.h2;refine⟨by rw[IK];exact h.vlen,h.below.setCell (by show w.heap.size<=V;omega) _,YZ h.st (by show V≠_;omega) _,QL h.res _ _,YZ h.ws (by show V≠_;omega) _,YZ h.rs (by show V≠_;omega) _,?_,QL h.vt _ _,hN,hV,h2⟩
 have:=YC h.v i (.int .u32 x)
 rwa [Lp,Qfn] at this
structure M1(w W:World)(st ws rs:List Int)(N:Nat):Prop where
 below:Below w.heap.size w W
 st:W.rangeAt w.heap.size 0 (cW st)
 res:W.there (w.heap.size+1) 0 8
 ws:W.rangeAt N 0 (cW ws)
 rs:W.rangeAt 1 0 (cW rs)
 hN:w.heap.size+2<=N
 hV:N<W.heap.size
 h2:1<w.heap.size
theorem M1.start{w w':World}{st ws rs:List Int}{t1 t2 t3:TypeId}{z:Array Value}(hz:z.size=8){z2:Array Value}(hz2:z2.size=64)(hwl:ws.length=64)(hrl:rs.length=64)
  (hr:w.rangeAt 1 0 (cW rs))
  (hb:Below ((w.alloc (.cells (cW st).toArray t1)).alloc (.cells z t2)).heap.size ((w.alloc (.cells (cW st).toArray t1)).alloc (.cells z t2)) w') :
  M1 w ((w'.alloc (.cells z2 t3)).setCells w'.heap.size 0 (cW ws)) st ws rs w'.heap.size:=by
 have hlt:1<w.heap.size:=QH hr (by intro h;have:=LZ List.length h;simp[Ql,hrl] at this)
 have hN:w.heap.size+2<=w'.heap.size:=by have:=hb.size;simp at this;omega
 have hbw2:Below w.heap.size w w':=(((Lc _ _).alloc (Lb _) _).alloc (by simp) _).trans (hb.mono (by simp;omega))
 have h1:w'.rangeAt w.heap.size 0 (cW st):=Qk hb (by simp;omega) (World.rangeAt_alloc (Qq _ _ _) _)
 have h2:w'.there (w.heap.size+1) 0 8:=by
  have:=Qm (w.alloc (.cells (cW st).toArray t1)) z t2 8 (by omega)
  simp only[World.size_alloc] at this;exact QS hb (by simp) this
 have h3:w'.rangeAt 1 0 (cW rs):=Qk hbw2 hlt hr;have hw:((w'.alloc (.cells z2 t3)).setCells w'.heap.size 0 (cW ws)).rangeAt w'.heap.size 0 (cW ws):=World.rangeAt_setCells_same _ _ _ _ (Qm _ _ _ _ (by rw[Ql,hwl,hz2];exact Lb _))
 refine⟨Qo (hbw2.alloc (by omega) _) (by omega) _ _,?_,?_,hw,?_,hN,?_,hlt⟩
 ·exact World.rangeAt_setCells_apart (World.rangeAt_alloc h1 _) _ _ _ (Or.inl (by omega))
 ·exact World.there_setCells (World.there_alloc h2 _) _ _ _
 ·exact World.rangeAt_setCells_apart (World.rangeAt_alloc h3 _) _ _ _ (Or.inl (by omega))
 ·exact QH hw (by intro h;have:=LZ List.length h;simp[Ql,hwl] at this)
theorem Mx.start{w W:World}{st ws rs:List Int}{N:Nat}(h:M1 w W st ws rs N)(hst:st.length=8)(t:TypeId):Mx w (W.alloc (.cells (cW st).toArray t)) st ws rs st N W.heap.size :=
 ⟨hst,h.below.alloc h.below.size _,World.rangeAt_alloc h.st _,World.there_alloc h.res _,World.rangeAt_alloc h.ws _,World.rangeAt_alloc h.rs _,Qq _ _ _,Qm _ _ _ _ (by simp[Ql,hst]),h.hN,h.hV,h.h2⟩
theorem QhU(st:List Int)(hst:st.length=8)(b:BA)(hb:b.size=64)(w:World)(rs:List Int)(hrl:rs.length=64)(hr:w.rangeAt 1 0 (cW rs)) :
  Calls prog 31 #[.agg (cW st).toArray,.string b] w fun e w'=>e= .returned (.agg (cW (YJ rs st (tB b))).toArray)∧Below w.heap.size w w':=by
 obtain⟨s0,s1,s2,s3,s4,s5,s6,s7,rfl⟩:=Qbz hst;clear hst;obtain⟨ws,hws⟩:∃ws,ws=Q1 (tB b) 48:=⟨_,rfl⟩;have hwl:ws.length=64:=by rw[hws,O0]
 have hplan:=fun w=>Qkr b hb w
 rw[Qm3 (QkS b),<-hws] at hplan;have HE:Hid (ws=Q1 (tB b) 48):=hws;clear hws;have hsz:(cW ws).toArray.size=64:=by simp[Ql,hwl]
 have hi46:(prog.info? 141).map (·.size)=some (cW ws).toArray.size:=by rw[hsz];exact QdO
 go_enter func31,ntmps31
 go_upto_region 2 with (first|(go_at_call 62;refine(hplan _).mono ?_;rintro e w' ⟨rfl,hbw⟩)|(refine wpList_store_mid rfl 141 _ _ rfl _ 0 (cW ws).toArray rfl rfl ?_ hi46 (all_oneCell_toArray (Ua ws)) ?_;exact Qm _ _ _ _ (by rw[hsz];exact Lb 64)))
 go_simp
 have hM:M1 w ((w'.alloc (.cells Za 141)).setCells w'.heap.size 0 (cW ws)) [s0,s1,s2,s3,s4,s5,s6,s7] ws rs w'.heap.size:=M1.start (z2:=(cW (List.replicate 64 0)).toArray) (z:=(cW [0,0,0,0,0,0,0,0]).toArray) rfl rfl hwl hrl hr hbw;clear hbw hplan;generalize ((w'.alloc (.cells Za 141)).setCells w'.heap.size 0 (cW ws))=W2 at *;generalize w'.heap.size=N at *;clear w';have c0:W2.cell? ⟨w.heap.size,0,none⟩=some (.int .u32 s0):=Qd hM.st (i:=0) (by simp)
 have c1:W2.cell? ⟨w.heap.size,1,none⟩=some (.int .u32 s1):=Qd hM.st (i:=1) (by simp)
 have c2:W2.cell? ⟨w.heap.size,2,none⟩=some (.int .u32 s2):=Qd hM.st (i:=2) (by simp)
 have c3:W2.cell? ⟨w.heap.size,3,none⟩=some (.int .u32 s3):=Qd hM.st (i:=3) (by simp)
 have c4:W2.cell? ⟨w.heap.size,4,none⟩=some (.int .u32 s4):=Qd hM.st (i:=4) (by simp)
 have c5:W2.cell? ⟨w.heap.size,5,none⟩=some (.int .u32 s5):=Qd hM.st (i:=5) (by simp)
 have c6:W2.cell? ⟨w.heap.size,6,none⟩=some (.int .u32 s6):=Qd hM.st (i:=6) (by simp)
 have c7:W2.cell? ⟨w.heap.size,7,none⟩=some (.int .u32 s7):=Qd hM.st (i:=7) (by simp)
 have hX:Mx w (W2.alloc (.cells (cW [s0,s1,s2,s3,s4,s5,s6,s7]).toArray 85)) [s0,s1,s2,s3,s4,s5,s6,s7] ws rs [s0,s1,s2,s3,s4,s5,s6,s7] N W2.heap.size:=Mx.start hM rfl 85;replace hX:Mx w (W2.alloc (.cells #[.int .u32 s0,.int .u32 s1,.int .u32 s2,.int .u32 s3,.int .u32 s4,.int .u32 s5,.int .u32 s6,.int .u32 s7] 85)) [s0,s1,s2,s3,s4,s5,s6,s7] ws rs [s0,s1,s2,s3,s4,s5,s6,s7] N W2.heap.size:=hX;clear hM;go_wp2;clear c0 c1 c2 c3 c4 c5 c6 c7;generalize W2.alloc (.cells #[.int .u32 s0,.int .u32 s1,.int .u32 s2,.int .u32 s3,.int .u32 s4,.int .u32 s5,.int .u32 s6,.int .u32 s7] 85)=W3 at *;generalize W2.heap.size=V at *;clear W2
 go_loopg [7] 64 (fun g i wr=> ∃(k:Nat) (v:S8),k<=64∧g=64-k∧i= .int .i64 k∧Hid (v=rnds (Uv [s0,s1,s2,s3,s4,s5,s6,s7]) rs ws k)∧Mx w wr [s0,s1,s2,s3,s4,s5,s6,s7] ws rs (l8 v) N V)
 case atStart=>go_light;exact⟨0,Uv [s0,s1,s2,s3,s4,s5,s6,s7],Lm _,rfl,rfl,rfl,hX⟩
 case round=>
  clear hX;obtain⟨k,v,hk,rfl,rfl,hv,hX⟩:=hrel
  by_cases hlt:k<64
  ·have hk0:(0:Int)<=(k:Int):=Lf _;have hk8:(k:Int)<64:=by omega
   obtain⟨a,b',c,d,e,f,g,gh⟩:=v;have cr:=Qd hX.rs (i:=k) (by omega)
   have cw:=Qd hX.ws (i:=k) (by omega)
   have c0:wr.cell? ⟨V,0,none⟩=some (.int .u32 a):=Qd hX.v (i:=0) (by simp[l8])
   have c1:wr.cell? ⟨V,1,none⟩=some (.int .u32 b'):=Qd hX.v (i:=1) (by simp[l8])
   have c2:wr.cell? ⟨V,2,none⟩=some (.int .u32 c):=Qd hX.v (i:=2) (by simp[l8])
   have c3:wr.cell? ⟨V,3,none⟩=some (.int .u32 d):=Qd hX.v (i:=3) (by simp[l8])
   have c4:wr.cell? ⟨V,4,none⟩=some (.int .u32 e):=Qd hX.v (i:=4) (by simp[l8])
   have c5:wr.cell? ⟨V,5,none⟩=some (.int .u32 f):=Qd hX.v (i:=5) (by simp[l8])
   have c6:wr.cell? ⟨V,6,none⟩=some (.int .u32 g):=Qd hX.v (i:=6) (by simp[l8])
   have c7:wr.cell? ⟨V,7,none⟩=some (.int .u32 gh):=Qd hX.v (i:=7) (by simp[l8])
   have f0:wr.frozen? ⟨V,0,none⟩=false:=by have:=(hX.vt 0 (by decide)).2;rwa [Lp] at this
   have f1:wr.frozen? ⟨V,1,none⟩=false:=by have:=(hX.vt 1 (by decide)).2;rwa [Lp] at this
   have f2:wr.frozen? ⟨V,2,none⟩=false:=by have:=(hX.vt 2 (by decide)).2;rwa [Lp] at this
   have f3:wr.frozen? ⟨V,3,none⟩=false:=by have:=(hX.vt 3 (by decide)).2;rwa [Lp] at this
   have f4:wr.frozen? ⟨V,4,none⟩=false:=by have:=(hX.vt 4 (by decide)).2;rwa [Lp] at this
   have f5:wr.frozen? ⟨V,5,none⟩=false:=by have:=(hX.vt 5 (by decide)).2;rwa [Lp] at this
   have f6:wr.frozen? ⟨V,6,none⟩=false:=by have:=(hX.vt 6 (by decide)).2;rwa [Lp] at this
   have f7:wr.frozen? ⟨V,7,none⟩=false:=by have:=(hX.vt 7 (by decide)).2;rwa [Lp] at this
   have HX:Hid (∀x0 x1 x2 x3 x4 x5 x6 x7,Mx w ((((((((wr.setCell ⟨V,0,none⟩ (.int .u32 x0)).setCell ⟨V,1,none⟩ (.int .u32 x1)).setCell ⟨V,2,none⟩ (.int .u32 x2)).setCell ⟨V,3,none⟩ (.int .u32 x3)).setCell ⟨V,4,none⟩ (.int .u32 x4)).setCell ⟨V,5,none⟩ (.int .u32 x5)).setCell ⟨V,6,none⟩ (.int .u32 x6)).setCell ⟨V,7,none⟩ (.int .u32 x7)) [s0,s1,s2,s3,s4,s5,s6,s7] ws rs [x0,x1,x2,x3,x4,x5,x6,x7] N V):=fun x0 x1 x2 x3 x4 x5 x6 x7=>((((((((hX.set 0 x0).set 1 x1).set 2 x2).set 3 x3).set 4 x4).set 5 x5).set 6 x6).set 7 x7)
   have HV:Hid (∀v',v'=S8.rnd ⟨a,b',c,d,e,f,g,gh⟩ (rs.getD k 0) (ws.getD k 0)->v'=rnds (Uv [s0,s1,s2,s3,s4,s5,s6,s7]) rs ws (k+1)):=fun v' h=>by
    rw[h,show S8.mk a b' c d e f g gh=_ from hv];rfl
   clear hX hv;generalize rs.getD k 0=r at *;generalize ws.getD k 0=x at *;go_wp2
   go_region_held3 (fun w'=>w'.cell? ⟨1,k,none⟩=some (.int .u32 r)∧w'.cell? ⟨N,k,none⟩=some (.int .u32 x)∧w'.cell? ⟨V,4,none⟩=some (.int .u32 e)∧w'.cell? ⟨V,5,none⟩=some (.int .u32 f)∧w'.cell? ⟨V,6,none⟩=some (.int .u32 g)∧w'.cell? ⟨V,7,none⟩=some (.int .u32 gh)) (first|assumption|(refine⟨?_,?_,?_,?_,?_,?_⟩ <;> assumption)) (first|(go_at_call 63;refine(QbY _ _ _ (by decide) (by decide)).mono ?_;rintro e w' ⟨rfl,q,rfl⟩))
   go_wp2
   go_region_held3 (fun w'=>w'.cell? ⟨V,0,none⟩=some (.int .u32 a)∧w'.cell? ⟨V,1,none⟩=some (.int .u32 b')∧w'.cell? ⟨V,2,none⟩=some (.int .u32 c)) (first|assumption|(refine⟨?_,?_,?_⟩ <;> assumption)) (first|(go_at_call 63;refine(QbY _ _ _ (by decide) (by decide)).mono ?_;rintro e w' ⟨rfl,q,rfl⟩))
   go_wp2
   go_roundg (64-(k+1))
   case rel=>
    go_light;refine⟨k+1,S8.rnd ⟨a,b',c,d,e,f,g,gh⟩ r x,by omega,rfl,by go_num,HV.out (S8.rnd ⟨a,b',c,d,e,f,g,gh⟩ r x) rfl,?_⟩
    simp only[l8,S8.rnd,QpN,QpO];refine Mx.same (HX.out _ _ _ _ _ _ _ _) ?_ ?_ ?_ ?_
    all_goals rfl
   case measure=>go_light;omega
  ·obtain rfl:k=64:=by omega
   have HVF:Hid (YJ rs [s0,s1,s2,s3,s4,s5,s6,s7] (tB b)=sumI (Uv [s0,s1,s2,s3,s4,s5,s6,s7]) v):=by
    show _=_
    rw[show v=_ from hv,show ws=_ from HE];rfl
   clear hk hlt hv;go_wp2
   go_loopg [10] 8 (fun g i wr=> ∃k:Nat,k<=8∧g=8-k∧i= .int .i64 k∧Mx w wr [s0,s1,s2,s3,s4,s5,s6,s7] ws rs (addL (Uv [s0,s1,s2,s3,s4,s5,s6,s7]) v k) N V)
   case atStart=>go_light;exact⟨0,Lm _,rfl,rfl,hX⟩
   case round=>
    clear hX;obtain⟨k,hk,rfl,rfl,hX⟩:=hrel
    by_cases hlt:k<8
    ·have hk0:(0:Int)<=(k:Int):=Lf _;have hk8:(k:Int)<8:=by omega
     have cv:=Qd hX.v (i:=k) (by rw[hX.vlen];omega)
     rw[Qhj _ _ _ _ (Lb _)] at cv;have cs:wr.cell? ⟨w.heap.size,k,none⟩=some (.int .u32 ((l8 (Uv [s0,s1,s2,s3,s4,s5,s6,s7])).getD k 0)):=Qd hX.st (i:=k) hlt;have fv:wr.frozen? ⟨V,k,none⟩=false:=by have:=(hX.vt k hlt).2;rwa [Lp] at this
     have HF:Hid (∀x,Mx w (wr.setCell ⟨V,k,none⟩ (.int .u32 x)) [s0,s1,s2,s3,s4,s5,s6,s7] ws rs ((addL (Uv [s0,s1,s2,s3,s4,s5,s6,s7]) v k).set k x) N V):=fun x=>hX.set k x
     have HV:Hid (addL (Uv [s0,s1,s2,s3,s4,s5,s6,s7]) v (k+1)=(addL (Uv [s0,s1,s2,s3,s4,s5,s6,s7]) v k).set k (IntKind.u32.wrap ((l8 v).getD k 0+(l8 (Uv [s0,s1,s2,s3,s4,s5,s6,s7])).getD k 0))):=rfl;clear hX;generalize (l8 v).getD k 0=x at *;generalize (l8 (Uv [s0,s1,s2,s3,s4,s5,s6,s7])).getD k 0=y at *;go_wp2
     go_region
     all_goals
      go_wp2
      go_roundg (8-(k+1))
      case rel=>
       go_light;refine⟨k+1,by omega,rfl,by go_num,?_⟩
       rw[HV.out,IntKind.wrap_u32'];exact(HF.out _).same rfl rfl rfl rfl
      case measure=>go_light;omega
    ·obtain rfl:k=8:=by omega
     rw[QiE] at hX;have hvl:=hX.vlen;have hvr:=hX.v;have hi34:(prog.info? 85).map (·.size)=some (cW (sumI (Uv [s0,s1,s2,s3,s4,s5,s6,s7]) v)).length:=Uf;have hi34':(prog.info? 85).map (·.size)=some (cW (sumI (Uv [s0,s1,s2,s3,s4,s5,s6,s7]) v)).toArray.size:=Uf;have hres:wr.there (w.heap.size+1) 0 (cW (sumI (Uv [s0,s1,s2,s3,s4,s5,s6,s7]) v)).toArray.size:=hX.res;have hbel:=hX.below;clear hX;generalize hE:sumI (Uv [s0,s1,s2,s3,s4,s5,s6,s7]) v=F at *;have HF:Hid (YJ rs [s0,s1,s2,s3,s4,s5,s6,s7] (tB b)=F):=HVF;clear hE HVF
     go_wp2_with (first|(refine wpList_load_mid rfl 85 _ rfl V 0 rfl (cW F) _ hvr underlying85 rfl hi34 ?_)|(refine wpList_store_mid rfl 85 _ _ rfl (w.heap.size+1) 0 (cW F).toArray rfl rfl hres hi34' (all_oneCell_toArray (Ua F)) ?_))
     refine LA (v := .agg (cW F).toArray) ?_ rfl ⟨by rw[HF.out],?_⟩
     ·refine QZ results31 _ _ (w.heap.size+1) 0 (cW F) (.array 8 55) ?_ ?_ underlying85 rfl hi34
      ·rfl
      ·go_light
       simpa using World.rangeAt_setCells_same _ _ _ _ (by simpa using hres)
     ·go_light;exact Qo hbel (by omega) _ _
end Go.Proofs.YtoblgjledefdbabGreatDoor
